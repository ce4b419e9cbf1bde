"""Structures that are told by their bases or by columns of numbers."""

from unseenrest.errors import InvalidBases, InvalidName, InvalidNumber, TooMany, UnknownName
from unseenrest.names import checked_names, is_group, is_name
from unseenrest.structures import MOST_NAMES, MOST_UNSEEN, Structure, known_structure, single_bits, sums_of_sets

MODULI = (2, 3, 5, 7)


def is_bases(value):
    """Whether any value is bases."""
    return _wrong_item(value) is None


def from_bases(names, bases):
    """The structure with these names that the bases give, without unseen elements."""
    known = checked_names(names, MOST_NAMES)
    check_bases(bases)
    for name in names_of_bases(bases):
        if name not in known:
            raise UnknownName(name)
    return known_structure(known, ranks_by_bases(known, bases), 0)


def from_columns(columns, *, modulus=2, unseen=()):
    """The structure in which a set has the rank of its columns modulo a prime."""
    for name in columns:
        if not is_name(name):
            raise InvalidName(name)
    if len(columns) > MOST_NAMES:
        raise TooMany("names", MOST_NAMES)
    if len(unseen) > MOST_UNSEEN:
        raise TooMany("unseen", MOST_UNSEEN)
    if len(columns) + len(unseen) > Structure.MOST:
        raise TooMany("elements", Structure.MOST)
    if modulus not in MODULI:
        raise InvalidNumber(modulus)
    names = tuple(sorted(columns))
    ordered = [columns[name] for name in names] + list(unseen)
    return known_structure(names, _ranks_of_columns(ordered, modulus), len(unseen))


def check_bases(value):
    """Raise InvalidBases unless any value is bases."""
    at = _wrong_item(value)
    if at is not None:
        raise InvalidBases(at)


def names_of_bases(bases):
    """The names in the bases, in order, and as often as they stand there."""
    return [name for group in bases for name in group]


def ranks_by_bases(names, bases):
    """By the indexes of the sets of these names, the greatest number of names in common with one of the bases."""
    table = [0] * (1 << len(names))
    for group in bases:
        common = sums_of_sets([1 if name in group else 0 for name in names])
        table = [max(rank, more) for rank, more in zip(table, common)]
    return table


def _wrong_item(value):
    """The index that InvalidBases has for any value, or None for bases."""
    if not isinstance(value, tuple) or len(value) == 0:
        return 0
    seen = {}
    for at, group in enumerate(value):
        if not is_group(group) or len(group) != len(value[0]) or group in seen:
            return at
        seen[group] = True
    names = sorted(set(names_of_bases(value)))
    # The number of names is looked at first, as it bounds the number of groups that are compared.
    if len(names) > MOST_NAMES or not _exchange(value, names):
        return len(value)
    return None


def _exchange(bases, names):
    """Whether each name of a base can be exchanged for one of each other base, which gives a base again."""
    marks = [sum([1 << names.index(name) for name in group]) for group in bases]
    return all([_can_lose(one, other, marks) for one in marks for other in marks])


def _can_lose(one, other, marks):
    """Whether each element of a base that is not in another one can be exchanged for one of that one."""
    out = single_bits(one & ~other)
    fresh = single_bits(other & ~one)
    return all([any([(one ^ lost ^ found) in marks for found in fresh]) for lost in out])


def _ranks_of_columns(columns, modulus):
    """By the indexes of all sets of columns, their ranks."""
    short = _shortened(columns, modulus)
    bases = [[]]
    for column in short:
        bases = bases + [_with_vector(base, column, modulus) for base in bases]
    return [len(base) for base in bases]


def _shortened(columns, modulus):
    """Columns with the same ranks of all sets, of which none is longer than their number."""
    # Rows that depend on others add nothing to the rank of any set of columns.
    base = []
    for row in zip(*columns):
        base = _with_vector(base, row, modulus)
    return [[row[at] for row in base] for at in range(len(columns))]


def _with_vector(base, vector, modulus):
    """A base of the span of a base and one vector more.

    Each vector of a base begins with its own 1, at a place where all that stand behind it have 0.
    """
    rest = [number % modulus for number in vector]
    for known in base:
        many = rest[_lead(known)]
        rest = [(number - many * other) % modulus for number, other in zip(rest, known)]
    if not any(rest):
        return base
    inverse = _inverse(rest[_lead(rest)], modulus)
    return base + [[number * inverse % modulus for number in rest]]


def _lead(vector):
    """The first place at which a vector is not 0."""
    return [at for at, number in enumerate(vector) if number][0]


def _inverse(number, modulus):
    return [other for other in range(1, modulus) if number * other % modulus == 1][0]
