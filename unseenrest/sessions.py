"""Sessions: one told structure that single steps lead, which can be undone and redone."""

from unseenrest.changes import changed
from unseenrest.errors import InvalidStep, NothingLeft
from unseenrest.forms import is_single


class Session:
    """A structure with the steps that were done on it."""

    def __init__(self, structure):
        # Steps that were undone stay here, with the structures behind them, until another step is done.
        self._structures = [structure]
        self._steps = []
        self._done = 0
        self._busy = False

    @property
    def structure(self):
        """The present structure."""
        return self._structures[self._done]

    @property
    def busy(self):
        """Whether steps are being done."""
        return self._busy

    def do(self, *steps):
        """Do all of these steps, in order, or none."""
        for at, step in enumerate(steps):
            if not is_single(step):
                raise InvalidStep((at,))
        self._busy = True
        try:
            self._do_all(steps)
        finally:
            self._busy = False

    def undo(self):
        """Undo one step."""
        if self._done == 0:
            raise NothingLeft()
        self._done = self._done - 1

    def redo(self):
        """Do the step again that was undone last."""
        if self._done == len(self._steps):
            raise NothingLeft()
        self._done = self._done + 1

    def history(self):
        """The pair of the numbers of steps that can be undone and redone."""
        return self._done, len(self._steps) - self._done

    def log(self):
        """The list of the steps that are done."""
        return self._steps[:self._done]

    def walk(self):
        """The structures from the first one to the present one."""
        for structure in self._structures[:self._done + 1]:
            yield structure

    def twin(self):
        """An independent session in the same state."""
        made = Session(self._structures[0])
        made._structures = list(self._structures)
        made._steps = list(self._steps)
        made._done = self._done
        return made

    def __len__(self):
        return len(self._steps[:self._done])

    def __bool__(self):
        return True

    def __repr__(self):
        return f"Session({self._done} steps)"

    def _do_all(self, steps):
        now, found = self.structure, []
        for step in steps:
            now = changed(now, step)
            found.append(now)
        if found:
            self._structures = self._structures[:self._done + 1] + found
            self._steps = self._steps[:self._done] + list(steps)
            self._done = len(self._steps)
