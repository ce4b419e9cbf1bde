"""Points 6, 9, 10 and 13 of the document, word by word."""

from brute import ranks_of, subsets
from unseenrest.frames import Frame
from unseenrest.structures import structures


def is_quotient(quotient, other):
    """Whether a structure is a quotient of another one with the same elements."""
    above, below = ranks_of(other), ranks_of(quotient)
    return all(
        above[large] - below[large] >= above[part] - below[part] for large in above for part in subsets(large)
    )


def shown(structure, marks):
    """The ranks of first, middle and last, the gaps and the spares that a structure shows at a set of unseen elements."""
    ranks = ranks_of(structure)
    named, unseen = frozenset(structure.names()), frozenset(range(structure.unseen))
    kinds = [
        {part: ranks[part | some] - ranks[some] for part in subsets(named)}
        for some in (frozenset(), frozenset(marks), unseen)
    ]
    gaps = tuple(structure.full - ranks[some | named] for some in (frozenset(), frozenset(marks)))
    spares = tuple(len(some) - ranks[some] for some in (frozenset(marks), unseen))
    return kinds + [gaps, spares]


def told(frame):
    """The same of a frame."""
    return [ranks_of(kind) for kind in (frame.first, frame.middle, frame.last)] + [frame.gaps, frame.spares]


def unseen_of(first, middle, last, gaps, spares):
    return first.full - last.full + gaps[0] + spares[1]


def order(frame):
    """The key by which frames are ordered."""
    tables = [kind.table() for kind in (frame.first, frame.middle, frame.last)]
    return [unseen_of(frame.first, frame.middle, frame.last, frame.gaps, frame.spares)] + tables + [frame.gaps, frame.spares]


def pairs_up_to(most):
    return [(one, other) for one in range(most + 1) for other in range(one + 1)]


def all_frames(names, gap, spare):
    """All frames with these names and with gaps and spares up to these, ordered."""
    kinds = list(structures(names))
    quotients = [(one, other) for one in kinds for other in kinds if is_quotient(other, one)]
    found = [
        Frame(first, middle, last, gaps=gaps, spares=spares[::-1])
        for first, middle in quotients for one, last in quotients if one == middle
        for gaps in pairs_up_to(gap) for spares in pairs_up_to(spare)
    ]
    return sorted(found, key=order)


def built_ranks(frame):
    """The ranks of the structure to which a frame is built, by point 10."""
    d = frame.first.full - frame.middle.full
    e = frame.middle.full - frame.last.full
    kinds = ["first"] * d + ["loop"] * frame.spares[0] + ["bridge"] * (frame.gaps[0] - frame.gaps[1])
    kinds += ["second"] * e + ["loop"] * (frame.spares[1] - frame.spares[0]) + ["bridge"] * frame.gaps[1]
    ranks = {}
    for part in subsets(frame.first.names() + list(range(len(kinds)))):
        group = [item for item in part if isinstance(item, str)]
        found = [kinds[item] for item in part if item not in group]
        i, j, b = found.count("first"), found.count("second"), found.count("bridge")
        least = min(
            frame.first.rank(*group) + i + j, frame.middle.rank(*group) + d + j, frame.last.rank(*group) + d + e
        )
        ranks[part] = b + least
    return ranks
