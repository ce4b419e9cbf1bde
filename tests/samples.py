"""Structures to try things on."""

from brute import tables_by_bases
from unseenrest.structures import Structure

NAMES = ["b", "d", "f", "ff", "z", "zz"]


def with_splits(count, named=None):
    """All structures with so many elements, the first of them named; with each number of names, if none is told."""
    numbers = range(count + 1) if named is None else [named]
    return [
        Structure(NAMES[:many], table, unseen=count - many)
        for table in tables_by_bases(count) for many in numbers
    ]


def small():
    """All structures with at most three elements."""
    return [structure for count in range(4) for structure in with_splits(count)]


def columns_table(columns):
    """The table of the ranks of columns modulo 2, each given as a number whose bits are its rows."""
    table = []
    for index in range(2 ** len(columns)):
        reduced = []
        for at, column in enumerate(columns):
            if index >> at & 1:
                for row in reduced:
                    column = min(column, column ^ row)
                if column:
                    reduced.append(column)
        table.append(len(reduced))
    return table


def larger():
    """Some structures up to the bounds of the document."""
    names = ["a", "b", "c", "d", "e", "f"]
    seven = [1, 2, 4, 3, 5, 6, 7]
    twelve = [1, 2, 4, 8, 3, 12, 0, 5, 5, 15, 6, 9]
    return [
        Structure(names[:3], columns_table(seven), unseen=4),
        Structure(names, columns_table(seven), unseen=1),
        Structure([], columns_table(twelve[:9]), unseen=9),
        Structure(names[:3], columns_table(twelve), unseen=9),
        Structure(names, columns_table(twelve), unseen=6),
    ]
