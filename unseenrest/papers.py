"""Papers: answers to questions about two scripts, which can be looked over without asking again."""

from unseenrest.facts import is_fact, kept_frames
from unseenrest.frames import Frame, led_by
from unseenrest.names import is_group


class Paper:
    """The base class of all papers. A paper never changes."""

    KIND = "open"

    def __init__(self, one, other):
        self._one = one
        self._other = other

    @property
    def one(self):
        """The first script."""
        return self._one

    @property
    def other(self):
        """The second script."""
        return self._other

    def told(self):
        """What kind of paper this is."""
        return self.KIND

    def holds(self):
        """Whether what the paper shows is so."""
        return False

    def __bool__(self):
        return False

    def __repr__(self):
        return f"Paper({self.told()})"


class Alike(Paper):
    """Shows that two scripts leave the same, by the frames to which both lead all frames that matter."""

    KIND = "alike"

    def __init__(self, one, other, rows, *, facts=()):
        super().__init__(one, other)
        self._rows = _listed(rows)
        self._facts = _listed(facts)

    def rows(self):
        """The list of the pairs (frame, result)."""
        return _copied(self._rows)

    def facts(self):
        """The list of the facts."""
        return _copied(self._facts)

    def told(self):
        """What kind of paper this is, and the number of its rows."""
        many = len(self._rows) if isinstance(self._rows, list) else 0
        return f"{self.KIND} {many}"

    def holds(self):
        """Whether what the paper shows is so."""
        if not _go_together(self._one, self._other):
            return False
        names = self._one.names()
        if not isinstance(self._facts, list) or not all([is_fact(value, names) for value in self._facts]):
            return False
        if not isinstance(self._rows, list):
            return False
        return _rows_are_right(self._one, self._other, self._rows) and self._has_all_frames()

    def __bool__(self):
        return True

    def _has_all_frames(self):
        """Whether each frame up to the cuts that keeps the facts is there."""
        found = {}
        for row in self._rows:
            found[_key_of(row[0])] = True
        names, facts = self._one.names(), self._facts
        gap, spare = greater_cuts(self._one, self._other)
        return all([_key_of(frame) in found for frame in kept_frames(names, facts, gap, spare)])


class Parted(Paper):
    """Shows a set, by a frame and a group, that has unlike ranks behind two scripts."""

    KIND = "parted"

    def __init__(self, one, other, frame, group):
        super().__init__(one, other)
        self._frame = _copied(frame)
        self._group = _copied(group)

    @property
    def frame(self):
        """The frame of the structure and the marked elements."""
        return _copied(self._frame)

    @property
    def group(self):
        """The names that make the set together with the marked elements."""
        return _copied(self._group)

    def ranks(self):
        """The pair of the ranks of the set behind both scripts, or None if there is no such set."""
        if not self._has_set():
            return None
        group = self._group
        one, other = led_by(self._one, self._frame, {}), led_by(self._other, self._frame, {})
        return one.rank(*group), other.rank(*group)

    def told(self):
        """What kind of paper this is."""
        return self.KIND

    def holds(self):
        """Whether what the paper shows is so."""
        if not _go_together(self._one, self._other) or not self._has_set():
            return False
        one, other = self.ranks()
        return one != other

    def _has_set(self):
        """Whether the frame and the group are such that both scripts leave a rank."""
        for script in (self._one, self._other):
            if not _begins_with(script, self._frame) or not _ends_with(script, self._group):
                return False
        return True


class Exceeds(Parted):
    """Shows a set that has a greater rank behind the first script than behind the second one."""

    KIND = "exceeds"

    def __init__(self, one, other, frame, group):
        super().__init__(one, other, frame, group)

    def told(self):
        """What kind of paper this is."""
        return self.KIND

    def holds(self):
        """Whether what the paper shows is so."""
        if not super().holds():
            return False
        one, other = self.ranks()
        return one > other


def greater_cuts(one, other):
    """For gaps and for spares, the greater cut of two scripts."""
    return max(one.cuts[0], other.cuts[0]), max(one.cuts[1], other.cuts[1])


def _listed(value):
    """A copy of any value, a list for a tuple."""
    return [_copied(item) for item in value] if isinstance(value, tuple) else _copied(value)


def _copied(value):
    """Any value, with new lists in the places of all lists in it."""
    if isinstance(value, list):
        return [_copied(item) for item in value]
    if isinstance(value, tuple):
        return tuple([_copied(item) for item in value])
    return value


def _go_together(one, other):
    """Whether two scripts have the same names and ends and turn alike."""
    return one.names() == other.names() and one.ends() == other.ends() and one.turned == other.turned


def _begins_with(script, frame):
    """Whether any value is a frame with the names of a script."""
    return isinstance(frame, Frame) and frame.names() == script.names()


def _ends_with(script, group):
    """Whether any value is a group of names of the ends of a script."""
    ends = script.ends()
    return is_group(group) and all([name in ends for name in group])


def _rows_are_right(one, other, rows):
    """Whether each row is a frame and the one to which both scripts lead it."""
    seen = {}
    for row in rows:
        if not isinstance(row, tuple) or len(row) != 2 or not _begins_with(one, row[0]):
            return False
        if led_by(one, row[0], seen) != row[1] or led_by(other, row[0], seen) != row[1]:
            return False
    return True


def _key_of(frame):
    """A key that different frames with the same names do not share."""
    tables = [tuple(kind.table()) for kind in (frame.first, frame.middle, frame.last)]
    return tuple(tables), frame.gaps, frame.spares
