"""The definitions of the document, written down word by word over sets, as something to compare with."""

from itertools import combinations

# Any values that a caller may pass where an error is listed for wrong ones.
ODD_VALUES = [
    None, True, False, 0, 1, -1, 7, 1000000, -1000000, "", "a", "A", "ab c", "abcde", "abcdefg", "0", "a\n",
    (), [], ("a",), ["a"], (0,), [0], (None, True), [["a"], ("b", 1)], ((), ((),)),
]


def subsets(items):
    """All subsets, as frozensets."""
    items = list(items)
    return [frozenset(part) for size in range(len(items) + 1) for part in combinations(items, size)]


def index_of(part):
    """The index of a set of positions."""
    return sum(2 ** position for position in part)


def positions_of(index):
    return frozenset(position for position in range(index.bit_length()) if index >> position & 1)


def is_number(value):
    return type(value) is int


def keeps_rules(table, index):
    """Whether the entry at an index and those of its subsets keep point 3, tried on all pairs of sets."""
    parts = subsets(positions_of(index))
    if not all(is_number(table[index_of(part)]) for part in parts):
        return False
    rank = {part: table[index_of(part)] for part in parts}
    if rank[frozenset()] != 0:
        return False
    for part in parts:
        for other in parts:
            if len(other - part) == 1 and part < other and rank[other] - rank[part] not in (0, 1):
                return False
            if rank[part] + rank[other] < rank[part & other] + rank[part | other]:
                return False
    return True


def first_break(table):
    """The least index at which a table of right length breaks point 3, or None."""
    for index in range(len(table)):
        if not keeps_rules(table, index):
            return index
    return None


def tables_by_bases(count):
    """The tables of all structures with so many elements, ascending, found by the exchange of bases."""
    tables = []
    everything = range(count)
    for size in range(count + 1):
        groups = [frozenset(group) for group in combinations(everything, size)]
        for many in range(1, len(groups) + 1):
            for bases in combinations(groups, many):
                if exchanges(bases):
                    tables.append([max(len(positions_of(at) & base) for base in bases) for at in range(2 ** count)])
    return sorted(tables)


def exchanges(bases):
    known = set(bases)
    return all(
        any(one - {out} | {new} in known for new in other - one)
        for one in bases for other in bases for out in one - other
    )


def items_of(structure):
    """The elements in the order of their positions: names, then numbers."""
    return sorted(structure.names()) + list(range(structure.unseen))


def ranks_of(structure):
    """The ranks by sets of elements, read off the table."""
    items = items_of(structure)
    table = structure.table()
    return {frozenset(items[at] for at in positions_of(index)): table[index] for index in range(len(table))}


def table_of(items, rank):
    """The table of a function on sets of elements that stand in the order of their positions."""
    return [rank(frozenset(items[at] for at in positions_of(index))) for index in range(2 ** len(items))]
