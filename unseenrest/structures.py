"""Independence structures: named and unseen elements with a rank for each set of them."""

from unseenrest.errors import DuplicateName, InvalidMark, InvalidNumber, InvalidTable
from unseenrest.errors import TooMany, UnknownName, UnlikeNames
from unseenrest.names import checked_names, is_number, names_shown

MOST_NAMES = 6
MOST_UNSEEN = 9
MOST_LISTED = 3


class Structure:
    """A structure, told by the ranks of all sets of its elements. It never changes."""

    MOST = 12

    def __init__(self, names, table, *, unseen=0):
        known = checked_names(names, MOST_NAMES)
        if not is_number(unseen, 0, MOST_UNSEEN):
            raise InvalidNumber(unseen)
        count = len(known) + unseen
        if count > Structure.MOST:
            raise TooMany("elements", Structure.MOST)
        _check_table(table, count)
        self._names = known
        self._unseen = unseen
        self._table = tuple(table)

    @property
    def unseen(self):
        """The number of unseen elements."""
        return self._unseen

    @property
    def full(self):
        """The rank of all elements."""
        return self._table[-1]

    def names(self):
        """The ascending list of the names."""
        return list(self._names)

    def table(self):
        """The list of the ranks of all sets, by their indexes."""
        return list(self._table)

    def rank(self, *names, marks=()):
        """The rank of these named elements with these unseen ones."""
        return self._table[self._index(names, marks)]

    def span(self, *names, marks=()):
        """The ascending list of the named elements in the span of this set."""
        index = self._index(names, marks)
        rank = self._table[index]
        return [name for at, name in enumerate(self._names) if self._table[index | (1 << at)] == rank]

    def is_loop(self, name):
        """Whether this named element has the rank 0."""
        return self._table[self._bit(name)] == 0

    def is_bridge(self, name):
        """Whether the full rank is one less without this named element."""
        bit = self._bit(name)
        return self._table[self._everything() ^ bit] < self._table[-1]

    def behind(self, *marks):
        """The structure of the named elements alone, behind these unseen ones."""
        marked = self._marked(marks)
        table = [self._table[at | marked] - self._table[marked] for at in range(1 << len(self._names))]
        return known_structure(self._names, table, 0)

    def gap(self, *marks):
        """How much the full rank is above that of these unseen elements with all named ones."""
        named = (1 << len(self._names)) - 1
        return self._table[-1] - self._table[self._marked(marks) | named]

    def spare(self, *marks):
        """How many more these unseen elements are than their rank."""
        return len(marks) - self._table[self._marked(marks)]

    def is_quotient_of(self, other):
        """Whether this is a quotient of another structure with the same elements."""
        if not isinstance(other, Structure) or self._names != other._names or self._unseen != other._unseen:
            raise UnlikeNames()
        drops = [above - below for above, below in zip(other._table, self._table)]
        # If no single element more makes the difference less, no larger set does.
        return all([drops[at ^ bit] <= drops[at] for at in range(len(drops)) for bit in single_bits(at)])

    @staticmethod
    def free(names):
        """The structure in which the rank of a set is its number of elements."""
        known = checked_names(names, MOST_NAMES)
        return known_structure(known, sums_of_sets([1] * len(known)), 0)

    @staticmethod
    def uniform(names, rank):
        """The structure in which the rank of a set is its number of elements, but at most this rank."""
        known = checked_names(names, MOST_NAMES)
        if not is_number(rank, 0, len(known)):
            raise InvalidNumber(rank)
        return known_structure(known, [min(size, rank) for size in sums_of_sets([1] * len(known))], 0)

    def __invert__(self):
        everything = self._everything()
        sizes = sums_of_sets([1] * (len(self._names) + self._unseen))
        table = [size + self._table[everything ^ at] - self._table[-1] for at, size in enumerate(sizes)]
        return known_structure(self._names, table, self._unseen)

    def __add__(self, other):
        if not isinstance(other, Structure):
            return NotImplemented
        _check_sum(self, other)
        names = tuple(sorted(self._names + other._names))
        ours = parts_of_sets(self, names, 0, other._unseen)
        theirs = parts_of_sets(other, names, self._unseen, 0)
        table = [self._table[one] + other._table[two] for one, two in zip(ours, theirs)]
        return known_structure(names, table, self._unseen + other._unseen)

    def __eq__(self, other):
        return (
            isinstance(other, Structure)
            and self._names == other._names
            and self._unseen == other._unseen
            and self._table == other._table
        )

    def __contains__(self, x):
        return x in self._names

    def __len__(self):
        return len(self._names)

    def __repr__(self):
        return f"Structure({names_shown(self._names)}, {self._unseen} unseen, rank {self._table[-1]})"

    def _everything(self):
        """The index of the set of all elements."""
        return len(self._table) - 1

    def _bit(self, name):
        """The index of the set of one named element."""
        if name not in self:
            raise UnknownName(name)
        return 1 << self._names.index(name)

    def _index(self, names, marks):
        """The index of a set; all names are looked at before the first mark is."""
        index = 0
        for name in names:
            index = index | self._bit(name)
        return index | self._marked(marks)

    def _marked(self, marks):
        """The index of the set of these unseen elements."""
        if not isinstance(marks, (list, tuple)):
            raise InvalidMark(marks)
        index = 0
        for mark in marks:
            if not is_number(mark, 0, self._unseen - 1):
                raise InvalidMark(mark)
            bit = 1 << (len(self._names) + mark)
            if index & bit:
                raise InvalidMark(mark)
            index = index | bit
        return index


def structures(names):
    """All structures with these names and without unseen elements, ascending by their tables."""
    known = checked_names(names, MOST_LISTED)
    for table in _all_tables(len(known)):
        yield known_structure(known, table, 0)


def known_structure(names, table, unseen):
    """The structure with an ascending tuple of names and a table that are known to be right."""
    # A table that is made from a right one is right: to check it again would take far longer than to make it.
    made = Structure((), (0,))
    made._names = names
    made._unseen = unseen
    made._table = tuple(table)
    return made


def parts_of_sets(structure, names, before, after):
    """By the indexes of the sets of a new structure, the indexes of their parts in an old one.

    The new one has these names and, before and after the unseen elements of the old one, so many others.
    """
    known = structure.names()
    named = [1 << known.index(name) if name in known else 0 for name in names]
    unseen = [1 << (len(known) + mark) for mark in range(structure.unseen)]
    return sums_of_sets(named + [0] * before + unseen + [0] * after)


def sums_of_sets(amounts):
    """By the indexes of all sets of positions, the sums of the amounts at these positions."""
    sums = [0]
    for amount in amounts:
        sums = sums + [total + amount for total in sums]
    return sums


def single_bits(index):
    """The indexes of the single elements of a set."""
    return [1 << at for at in range(index.bit_length()) if (index >> at) & 1]


def _check_table(table, count):
    if not isinstance(table, (list, tuple)) or len(table) != 1 << count:
        raise InvalidTable(-1)
    for at in range(len(table)):
        if not _fits(table, at):
            raise InvalidTable(at)


def _fits(table, at):
    """Whether an entry goes with those of its subsets, which are known to go together."""
    rank = table[at]
    if not is_number(rank, 0, Structure.MOST):
        return False
    if at == 0:
        return rank == 0
    bits = single_bits(at)
    if not all([table[at ^ bit] in (rank - 1, rank) for bit in bits]):
        return False
    # As each element adds 0 or 1, and the subsets go together, the sums of two sets can fail in one way only:
    # two elements each add 1 to the rest of the set, but both together do not add 2 to what is left of it.
    adding = [bit for bit in bits if table[at ^ bit] == rank - 1]
    return all([table[at ^ one ^ two] == rank - 2 for one in adding for two in adding if one < two])


def _check_sum(one, other):
    for name in one.names():
        if name in other:
            raise DuplicateName(name)
    if len(one) + len(other) > MOST_NAMES:
        raise TooMany("names", MOST_NAMES)
    if one.unseen + other.unseen > MOST_UNSEEN:
        raise TooMany("unseen", MOST_UNSEEN)
    if len(one) + len(other) + one.unseen + other.unseen > Structure.MOST:
        raise TooMany("elements", Structure.MOST)


def _all_tables(count):
    """The tables of all structures with so many elements, ascending."""
    tables = [[0]]
    for at in range(1, 1 << count):
        longer = [table + [rank] for table in tables for rank in range(count + 1)]
        tables = [table for table in longer if _fits(table, at)]
    return tables
