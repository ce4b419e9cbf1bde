"""Scripts: names and steps that are checked before they run."""

from unseenrest.errors import DuplicateName, InvalidNumber, InvalidStep, InvalidTurn, TooDeep, TooMany
from unseenrest.errors import UnknownName, UnlikeEnds, UnlikeNames
from unseenrest.forms import MOST_TIMES, is_step, names_lost, names_made, names_needed, names_tested, steps_within
from unseenrest.names import checked_names, is_number, names_shown
from unseenrest.pieces import plain_steps, size_of
from unseenrest.structures import MOST_NAMES
from unseenrest.texts import read_steps, text_of

MOST_GIVEN = 3
MOST_DEEP = 4
LOOKING = ("top", "cut", "whole")


class Script:
    """A script: what it does to a structure that has its names is certain. It never changes."""

    MOST = 24
    LOOKS = 3

    def __init__(self, names, steps=(), *, pieces=None):
        known = checked_names(names, MOST_GIVEN)
        given = {} if pieces is None else dict(pieces)
        if not isinstance(steps, tuple):
            raise InvalidStep(())
        _check_forms(steps, ())
        plain = _checked_plain(steps, given)
        self._names = known
        self._steps = steps
        self._pieces = given
        self._plain = plain
        self._ends = _names_behind(known, plain, (), 0)
        self._turned, self._cuts = _turned_and_cuts(_words_done(plain))

    @property
    def turned(self):
        """Whether the script does the dual an odd number of times."""
        return self._turned

    @property
    def cuts(self):
        """The pair of the numbers up to which gaps and spares matter."""
        return self._cuts

    def names(self):
        """The ascending list of the names at the beginning."""
        return list(self._names)

    def ends(self):
        """The ascending list of the names at the end."""
        return list(self._ends)

    def steps(self):
        """The tuple of the steps as they were passed."""
        return self._steps

    def plain(self):
        """The tuple of the steps with each use replaced by the steps of its piece."""
        return self._plain

    def text(self):
        """The text of the steps as they were passed."""
        return text_of(self._steps)

    def without(self, at):
        """The script without one of its steps."""
        if not is_number(at, 0, len(self._steps) - 1):
            raise InvalidNumber(at)
        return Script(self._names, self._steps[:at] + self._steps[at + 1:], pieces=self._pieces)

    def swapped(self, at):
        """The script with a step and the next one exchanged."""
        if not is_number(at, 0, len(self._steps) - 2):
            raise InvalidNumber(at)
        pair = (self._steps[at + 1], self._steps[at])
        return Script(self._names, self._steps[:at] + pair + self._steps[at + 2:], pieces=self._pieces)

    @staticmethod
    def read(names, text, *, pieces=None):
        """The script with the steps that a text tells."""
        return Script(names, read_steps(text), pieces=pieces)

    def __add__(self, other):
        if not isinstance(other, Script):
            return NotImplemented
        if self._ends != other._names:
            raise UnlikeNames()
        return Script(self._names, self._plain + other._plain)

    def __mul__(self, other):
        if not is_number(other, 1, MOST_TIMES):
            raise InvalidNumber(other)
        if other > 1 and self._ends != self._names:
            raise UnlikeNames()
        return Script(self._names, (("repeat", other, self._plain),))

    def __eq__(self, other):
        return isinstance(other, Script) and self._names == other._names and self._plain == other._plain

    def __len__(self):
        return len(self._steps)

    def __repr__(self):
        return f"Script({names_shown(self._names)}: {len(self._steps)} steps)"


def _check_forms(steps, path):
    """Raise InvalidStep for the first value among steps, and those in them, that cannot stand there."""
    for at, step in enumerate(steps):
        here = path + (at,)
        if len(here) > MOST_DEEP or not is_step(step):
            raise InvalidStep(here)
        _check_forms(steps_within(step), here)


def _checked_plain(steps, pieces):
    """The plain steps, with the errors of all that hangs on no names."""
    count, depth = size_of(steps, pieces)
    if depth > MOST_DEEP:
        raise TooDeep(MOST_DEEP)
    if count > Script.MOST:
        raise TooMany("steps", Script.MOST)
    plain = plain_steps(steps, pieces)
    if len([word for word in _words_done(plain) if word in LOOKING]) > Script.LOOKS:
        raise TooMany("looks", Script.LOOKS)
    _check_turns(plain, (), False)
    return plain


def _words_done(steps):
    """The words of all steps and tests in the order in which they are done, those of both parts of an if."""
    words = ()
    for step in steps:
        if step[0] == "if":
            words = words + (step[1][0],) + _words_done(steps_within(step))
        elif step[0] == "repeat":
            words = words + _words_done(step[2]) * step[1]
        else:
            words = words + (step[0],)
    return words


def _turned_and_cuts(words):
    """Whether steps with these words turn, and the pair of the cuts."""
    turned, gap, spare = False, 0, 0
    for word in words:
        if word == "dual":
            turned = not turned
        elif word in LOOKING and turned:
            spare = spare + 1
        elif word in LOOKING:
            gap = gap + 1
    return turned, (gap, spare)


def _check_turns(steps, path, within):
    """Raise InvalidTurn for the first dual in an if; within tells whether the steps stand in one."""
    for at, step in enumerate(steps):
        here = path + (at,)
        if within and step[0] == "dual":
            raise InvalidTurn(here)
        _check_turns(steps_within(step), here, within or step[0] == "if")


def _names_behind(names, steps, path, start):
    """The names behind steps that stand in a path, with indexes from start on."""
    for at, step in enumerate(steps, start=start):
        names = _names_behind_step(names, step, path + (at,))
    return names


def _names_behind_step(names, step, path):
    if step[0] == "repeat":
        for _ in range(step[1]):
            names = _names_behind(names, step[2], path, 0)
        return names
    if step[0] == "if":
        _check_known(names, names_tested(step[1]))
        first = _names_behind(names, step[2], path, 0)
        second = _names_behind(names, step[3], path, len(step[2]))
        if first != second:
            raise UnlikeEnds(path)
        return first
    return _names_behind_single(names, step)


def _names_behind_single(names, step):
    """The ascending tuple of the names behind a step other than if, repeat and use."""
    _check_known(names, names_needed(step))
    lost, made = names_lost(step), names_made(step)
    kept = tuple([name for name in names if name not in lost])
    for name in made:
        if name in kept:
            raise DuplicateName(name)
    if len(kept) + len(made) > MOST_NAMES:
        raise TooMany("names", MOST_NAMES)
    return tuple(sorted(kept + made))


def _check_known(names, needed):
    for name in needed:
        if name not in names:
            raise UnknownName(name)
