"""Frames: all that a script can tell of a structure and of a marked set of its unseen elements."""

from unseenrest.changes import changed, extended
from unseenrest.errors import InvalidFrame, InvalidNumber, InvalidStep, TooMany, UnlikeNames
from unseenrest.forms import is_single
from unseenrest.names import is_number, names_shown
from unseenrest.running import chosen_steps, holds_in, repeated_steps
from unseenrest.structures import MOST_LISTED, MOST_UNSEEN, Structure, known_structure, structures, sums_of_sets

MOST_COUNT = 4


class Frame:
    """A frame. It never changes."""

    def __init__(self, first, middle, last, *, gaps=(0, 0), spares=(0, 0)):
        if not _are_quotients(first, middle, last) or not _are_counts(gaps, spares):
            raise InvalidFrame()
        self._first = first
        self._middle = middle
        self._last = last
        self._gaps = gaps
        self._spares = spares

    @property
    def first(self):
        """The structure behind no elements."""
        return self._first

    @property
    def middle(self):
        """The structure behind the marked elements."""
        return self._middle

    @property
    def last(self):
        """The structure behind all unseen elements."""
        return self._last

    @property
    def gaps(self):
        """The pair of the gaps of no elements and of the marked ones."""
        return self._gaps

    @property
    def spares(self):
        """The pair of the spares of the marked elements and of all unseen ones."""
        return self._spares

    @property
    def unseen(self):
        """The number of unseen elements of each structure with this frame."""
        return self._first.full - self._last.full + self._gaps[0] + self._spares[1]

    @property
    def marked(self):
        """The number of the marked ones of these."""
        return self._first.full - self._middle.full + self._spares[0] + self._gaps[0] - self._gaps[1]

    def names(self):
        """The ascending list of the names."""
        return self._first.names()

    def built(self):
        """A structure with this frame, whose first unseen elements are the marked ones."""
        if self.unseen > MOST_UNSEEN:
            raise TooMany("unseen", MOST_UNSEEN)
        if len(self._first) + self.unseen > Structure.MOST:
            raise TooMany("elements", Structure.MOST)
        return known_structure(tuple(self.names()), _built_ranks(self), self.unseen)

    def rank(self, *names):
        """The rank of these names with the marked elements."""
        return self.marked - self._spares[0] + self._middle.rank(*names)

    def after(self, step):
        """The frame behind a step other than if, repeat and use."""
        if not is_single(step):
            raise InvalidStep(())
        return _after(self, step, {})

    def __eq__(self, other):
        return (
            isinstance(other, Frame)
            and self._first == other._first
            and self._middle == other._middle
            and self._last == other._last
            and self._gaps == other._gaps
            and self._spares == other._spares
        )

    def __repr__(self):
        return f"Frame({names_shown(self._first.names())}, {self.unseen} unseen, {self.marked} marked)"


def frame_of(structure, *marks):
    """The frame that a structure shows at these unseen elements."""
    middle = structure.behind(*marks)
    whole = list(range(structure.unseen))
    gaps = (structure.gap(), structure.gap(*marks))
    spares = (structure.spare(*marks), structure.spare(*whole))
    return _known_frame(structure.behind(), middle, structure.behind(*whole), gaps, spares)


def frames(names, *, gap=0, spare=0):
    """All frames with these names and with gaps and spares up to these numbers, in their order."""
    kinds = list(structures(names))
    for most in (gap, spare):
        if not is_number(most, 0, MOST_COUNT):
            raise InvalidNumber(most)
    triples = _triples(kinds)
    for unseen in range(MOST_LISTED + gap + spare + 1):
        for first, middle, last in triples:
            for gaps, spares in _counts(unseen - first.full + last.full, gap, spare):
                yield _known_frame(first, middle, last, gaps, spares)


def led(script, frame):
    """The frame behind the script."""
    if not isinstance(frame, Frame) or frame.names() != script.names():
        raise UnlikeNames()
    return led_by(script, frame, {})


def led_by(script, frame, seen):
    """The frame behind the script, for a frame with its names; seen keeps what steps have made of structures."""
    now = frame
    todo = list(script.plain()[::-1])
    while todo:
        step = todo.pop()
        if step[0] == "if":
            todo.extend(chosen_steps(step, holds_at(now, step[1]))[::-1])
        elif step[0] == "repeat":
            todo.extend(repeated_steps(step)[::-1])
        else:
            now = _after(now, step, seen)
    return now


def holds_at(frame, test):
    """Whether a test holds in the structures with this frame."""
    if test[0] == "whole":
        return frame.gaps[0] == 0
    return holds_in(frame.first, test)


def _known_frame(first, middle, last, gaps, spares):
    """The frame of parts that are known to go together."""
    # What is made from a frame by the rules for frames is one: to check it again would take far longer.
    bare = Structure((), (0,))
    made = Frame(bare, bare, bare)
    made._first = first
    made._middle = middle
    made._last = last
    made._gaps = gaps
    made._spares = spares
    return made


def _are_quotients(first, middle, last):
    """Whether these are structures as a frame has them."""
    for kind in (first, middle, last):
        if not isinstance(kind, Structure) or kind.unseen > 0 or kind.names() != first.names():
            return False
    return middle.is_quotient_of(first) and last.is_quotient_of(middle)


def _are_counts(gaps, spares):
    """Whether these are pairs of numbers as a frame has them."""
    return _is_pair(gaps) and _is_pair(spares) and gaps[0] >= gaps[1] and spares[0] <= spares[1]


def _is_pair(value):
    """Whether any value is a pair of numbers that are not below 0."""
    return isinstance(value, tuple) and len(value) == 2 and all([_is_count(one) for one in value])


def _is_count(value):
    # There is no greatest count: some may be beyond those that are passed, behind steps that add to them.
    return isinstance(value, int) and not isinstance(value, bool) and value >= 0


def _built_ranks(frame):
    """The table of the structure that a frame is built to."""
    first, middle, last = frame.first.table(), frame.middle.table(), frame.last.table()
    one, two = first[-1] - middle[-1], middle[-1] - last[-1]
    kinds = _built_kinds(frame, one, two)
    named = sums_of_sets([1 << at for at in range(len(frame.names()))] + [0] * len(kinds))
    ones = _count_kind(frame, kinds, "one")
    twos = _count_kind(frame, kinds, "two")
    bridges = _count_kind(frame, kinds, "bridge")
    return [
        bridge + min(first[at] + i + j, middle[at] + one + j, last[at] + one + two)
        for at, i, j, bridge in zip(named, ones, twos, bridges)
    ]


def _built_kinds(frame, one, two):
    """The kinds of the unseen elements of the structure that a frame is built to, in order."""
    gaps, spares = frame.gaps, frame.spares
    marked = ["one"] * one + ["loop"] * spares[0] + ["bridge"] * (gaps[0] - gaps[1])
    return marked + ["two"] * two + ["loop"] * (spares[1] - spares[0]) + ["bridge"] * gaps[1]


def _count_kind(frame, kinds, kind):
    """By the indexes of all sets, how many of its unseen elements are of a kind."""
    return sums_of_sets([0] * len(frame.names()) + [1 if one == kind else 0 for one in kinds])


def _triples(kinds):
    """The triples of structures as a frame has them, ordered by their tables as the structures are."""
    below = [[at for at, kind in enumerate(kinds) if kind.is_quotient_of(above)] for above in kinds]
    return [
        (kinds[first], kinds[middle], kinds[last])
        for first in range(len(kinds)) for middle in below[first] for last in below[middle]
    ]


def _counts(rest, gap, spare):
    """The pairs of gaps and of spares, ordered, in which the first gap and the second spare have this sum."""
    return [
        ((one, other), (less, rest - one))
        for one in range(gap + 1) if 0 <= rest - one <= spare
        for other in range(one + 1) for less in range(rest - one + 1)
    ]


def _after(frame, step, seen):
    """The frame behind a step other than if, repeat and use; seen keeps what steps have made of structures."""
    if step[0] == "top":
        return _topped(frame, step, seen)
    if step[0] == "cut":
        return _cut(frame, step, seen)
    old = (frame.first, frame.middle, frame.last)
    first, middle, last = [_made(kind, step, seen) for kind in old]
    if step[0] == "dual":
        return _known_frame(last, middle, first, frame.spares[::-1], frame.gaps[::-1])
    growth = (first.full - old[0].full, middle.full - old[1].full, last.full - old[2].full)
    gaps, spares = frame.gaps, frame.spares
    if step[0] in ("delete", "unite"):
        # A bridge that is deleted is a growth by less than 0.
        gaps = (gaps[0] + growth[2] - growth[0], gaps[1] + growth[2] - growth[1])
    if step[0] in ("contract", "truncate"):
        # The full rank falls by 1 exactly if the element or the group has a rank above 0.
        spares = (spares[0] + growth[1] - growth[0], spares[1] + growth[2] - growth[0])
    return _known_frame(first, middle, last, gaps, spares)


def _made(kind, step, seen):
    """What a step makes of a structure."""
    # The frames of a few names have few structures in all, and each step meets the same ones again and again.
    key = (step, tuple(kind.names()), tuple(kind.table()))
    if key not in seen:
        seen[key] = changed(kind, step)
    return seen[key]


def _bridged(kind, name, seen):
    """A structure with a new element, which is a bridge."""
    key = (name, tuple(kind.names()), tuple(kind.table()))
    if key not in seen:
        # What is a loop of the dual is a bridge.
        seen[key] = ~extended(~kind, name)
    return seen[key]


def _topped(frame, step, seen):
    """The frame behind a step top."""
    first, one = _topped_kind(frame.first, frame.gaps[0], step, seen)
    middle, other = _topped_kind(frame.middle, frame.gaps[1], step, seen)
    return _known_frame(first, middle, _made(frame.last, step, seen), (one, other), frame.spares)


def _topped_kind(kind, gap, step, seen):
    """What a step top makes of a structure of a frame and of its gap."""
    if gap > 0:
        return _bridged(kind, step[1], seen), gap - 1
    return _made(kind, step, seen), 0


def _cut(frame, step, seen):
    """The frame behind a step cut."""
    first, one = _cut_kind(frame.first, frame.gaps[0], step, seen)
    middle, other = _cut_kind(frame.middle, frame.gaps[1], step, seen)
    loss = min(1, frame.gaps[0] + frame.first.full)
    less = frame.spares[0] + loss - min(1, frame.gaps[1] + frame.middle.full)
    more = frame.spares[1] + loss - min(1, frame.last.full)
    return _known_frame(first, middle, _made(frame.last, step, seen), (one, other), (less, more))


def _cut_kind(kind, gap, step, seen):
    """What a step cut makes of a structure of a frame and of its gap."""
    if gap > 0:
        return kind, gap - 1
    return _made(kind, step, seen), 0
