"""Comparing two scripts on all structures at once."""

from unseenrest.errors import UnlikeNames, UnlikeTurns
from unseenrest.facts import check_facts, kept_frames
from unseenrest.frames import led_by
from unseenrest.papers import Alike, Exceeds, Parted, greater_cuts


def compare(one, other, *, facts=()):
    """The paper that shows that two scripts leave the same, or a set on which they do not."""
    _check_questions(one, other, facts)
    rows = []
    for frame, first, second in _led_by_both(one, other, facts):
        group = _first_group(first, second, False)
        if group is not None:
            return Parted(one, other, frame, group)
        rows.append((frame, first))
    return Alike(one, other, rows, facts=facts)


def are_alike(one, other, *, facts=()):
    """Whether two scripts leave the same on every structure that keeps the facts."""
    return bool(compare(one, other, facts=facts))


def never_more(one, other, *, facts=()):
    """The paper that shows a set with a greater rank behind one than behind other, or None if there is none."""
    _check_questions(one, other, facts)
    for frame, first, second in _led_by_both(one, other, facts):
        group = _first_group(first, second, True)
        if group is not None:
            return Exceeds(one, other, frame, group)
    return None


def fewest(one, other, *, facts=()):
    """The fewest unseen elements of a structure on which two scripts differ, or None if there is none."""
    paper = compare(one, other, facts=facts)
    # The frames are ordered by their numbers of unseen elements first.
    return paper.frame.unseen if isinstance(paper, Parted) else None


def _check_questions(one, other, facts):
    if one.names() != other.names() or one.ends() != other.ends():
        raise UnlikeNames()
    if one.turned != other.turned:
        raise UnlikeTurns()
    check_facts(one.names(), facts)


def _led_by_both(one, other, facts):
    """Each frame that matters, in order, and the frames to which two scripts lead it."""
    names, seen = one.names(), {}
    gap, spare = greater_cuts(one, other)
    for frame in kept_frames(names, facts, gap, spare):
        yield frame, led_by(one, frame, seen), led_by(other, frame, seen)


def _first_group(one, other, more):
    """The group with the least index that has, with the marked elements, unlike ranks in two frames, or None.

    If more is told, the rank in the first frame is the greater one.
    """
    if one == other:
        return None
    names = one.names()
    for at, (first, second) in enumerate(zip(_ranks(one), _ranks(other))):
        if first > second or (first < second and not more):
            return tuple([name for place, name in enumerate(names) if (at >> place) & 1])
    return None


def _ranks(frame):
    """By the indexes of the sets of its names, their ranks in a frame with the marked elements."""
    behind = frame.rank()
    return [behind + rank for rank in frame.middle.table()]
