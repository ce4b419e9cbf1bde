"""Shelves: the steps of scripts by pieces, with facts, history and kept answers."""

from unseenrest.commands import behind_command, check_commands, check_piece, users_of
from unseenrest.comparing import are_alike
from unseenrest.errors import InvalidLimit, NothingLeft
from unseenrest.names import checked_names, is_number, is_piece, names_shown
from unseenrest.pieces import plain_steps
from unseenrest.scripts import MOST_GIVEN, Script
from unseenrest.texts import text_of


class Shelf:
    """A shelf of scripts that begin with the same names."""

    MOST = 12

    def __init__(self, names, *, limit=8):
        self._names = checked_names(names, MOST_GIVEN)
        _check_limit(limit, 0)
        self._limit = limit
        # A state is the pair of a dict from pieces to steps and a tuple of facts, and is never changed. States of steps
        # that were undone stay here until another step is made.
        self._states = [({}, ())]
        self._at = 0
        self._answers = {}
        self._computed = 0
        self._busy = False

    @property
    def limit(self):
        """The number of pieces up to which a piece can be put."""
        return self._limit

    @limit.setter
    def limit(self, value):
        _check_limit(value, len(self))
        self._limit = value

    @property
    def busy(self):
        """Whether steps are being made."""
        return self._busy

    @property
    def computed(self):
        """How many answers were computed without an error."""
        return self._computed

    def names(self):
        """The ascending list of the names with which the scripts begin."""
        return list(self._names)

    def pieces(self):
        """The ascending list of the pieces."""
        return sorted(self._state()[0])

    def set_limit(self, value):
        """Assign the limit."""
        self.limit = value

    def apply(self, *commands):
        """Do all of these commands, in order, as one step, or none."""
        check_commands(commands)
        self._busy = True
        try:
            self._apply_all(commands)
        finally:
            self._busy = False

    def undo(self):
        """Undo one step."""
        if self._at == 0:
            raise NothingLeft()
        self._move(self._at - 1)

    def redo(self):
        """Make the step again that was undone last."""
        if self._at == len(self._states) - 1:
            raise NothingLeft()
        self._move(self._at + 1)

    def history(self):
        """The pair of the numbers of steps that can be undone and redone."""
        return self._at, len(self._states) - 1 - self._at

    def script(self, piece):
        """The script of a piece, with the pieces of the shelf."""
        pieces = self._state()[0]
        check_piece(pieces, piece)
        return Script(self._names, pieces[piece], pieces=pieces)

    def text(self, piece):
        """The text of the steps of a piece."""
        pieces = self._state()[0]
        check_piece(pieces, piece)
        return text_of(pieces[piece])

    def users(self, piece):
        """The ascending list of the pieces whose steps use a piece directly."""
        pieces = self._state()[0]
        check_piece(pieces, piece)
        return users_of(pieces, piece)

    def facts(self):
        """The list of the facts."""
        return list(self._state()[1])

    def alike(self, one, other):
        """Whether the scripts of two pieces leave the same under the facts."""
        pieces, facts = self._state()
        check_piece(pieces, one)
        check_piece(pieces, other)
        pair = (one, other)
        if pair not in self._answers:
            self._answers[pair] = are_alike(self.script(one), self.script(other), facts=facts)
            self._computed = self._computed + 1
        return self._answers[pair]

    def kept(self):
        """The ascending list of the pairs of pieces whose answers are kept."""
        return sorted(self._answers)

    def twin(self):
        """An independent shelf in the same state."""
        made = Shelf(self._names, limit=self._limit)
        made._states = list(self._states)
        made._at = self._at
        made._answers = {pair: self._answers[pair] for pair in self._answers}
        made._computed = self._computed
        return made

    def __contains__(self, x):
        return is_piece(x) and x in self._state()[0]

    def __len__(self):
        return len(self._state()[0])

    def __bool__(self):
        return True

    def __eq__(self, other):
        return (
            isinstance(other, Shelf)
            and self._names == other._names
            and self._states[self._at] == other._states[other._at]
        )

    def __repr__(self):
        return f"Shelf({names_shown(self._names)}: {len(self._state()[0])} pieces)"

    def _state(self):
        """The present state."""
        return self._states[self._at]

    def _apply_all(self, commands):
        state = self._state()
        for command in commands:
            state = behind_command(self._names, self._limit, state, command)
        if commands:
            self._states = self._states[:self._at + 1] + [state]
            self._move(self._at + 1)

    def _move(self, at):
        """Go to another state; the answers that it leaves as they are stay kept."""
        before, behind = self._state(), self._states[at]
        self._answers = {
            pair: self._answers[pair] for pair in self._answers
            if before[1] == behind[1] and all([_stays(piece, before[0], behind[0]) for piece in pair])
        }
        self._at = at


def filled_shelf(names, pieces, facts):
    """The shelf with the greatest limit, and with pieces and facts that are known to be right, without steps."""
    made = Shelf(names, limit=Shelf.MOST)
    made._states = [(pieces, facts)]
    return made


def _check_limit(value, many):
    """Raise InvalidLimit for any value that cannot be the limit of a shelf with so many pieces."""
    if not is_number(value, max(1, many), Shelf.MOST):
        raise InvalidLimit(value)


def _stays(piece, before, behind):
    """Whether a piece has the same plain steps in two dicts of steps by pieces, of which the first one has it."""
    return piece in behind and plain_steps(before[piece], before) == plain_steps(behind[piece], behind)
