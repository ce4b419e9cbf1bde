"""New structures from old ones, by single steps."""

from unseenrest.building import check_bases, names_of_bases, ranks_by_bases
from unseenrest.errors import DuplicateName, InvalidName, InvalidStep, TooMany, UnknownName
from unseenrest.forms import is_single
from unseenrest.names import is_name
from unseenrest.structures import MOST_NAMES, Structure, known_structure, parts_of_sets, single_bits, sums_of_sets


def deleted(structure, name):
    """The structure without a named element."""
    _check_known(structure, (name,))
    names, parts = _without(structure, name)
    table = structure.table()
    return known_structure(names, [table[part] for part in parts], structure.unseen)


def contracted(structure, name):
    """The structure without a named element, with the ranks beyond its own."""
    _check_known(structure, (name,))
    names, parts = _without(structure, name)
    table = structure.table()
    bit = _index_of(structure, (name,))
    return known_structure(names, [table[part | bit] - table[bit] for part in parts], structure.unseen)


def extended(structure, name, *group):
    """The structure with a new named element in a group."""
    if not is_name(name):
        raise InvalidName(name)
    _check_known(structure, group)
    _check_room(structure, name)
    return _with_new(structure, name, _index_of(structure, group))


def topped(structure, name):
    """The structure with a new named element in the set of all elements."""
    if not is_name(name):
        raise InvalidName(name)
    _check_room(structure, name)
    return _with_new(structure, name, _index_of_all(structure))


def truncated(structure, *group):
    """The structure truncated by a group."""
    _check_known(structure, group)
    return _truncated_by(structure, _index_of(structure, group))


def cut(structure):
    """The structure truncated by the set of all elements."""
    return _truncated_by(structure, _index_of_all(structure))


def united(structure, bases):
    """The structure united with bases."""
    check_bases(bases)
    _check_known(structure, names_of_bases(bases))
    names = structure.names()
    common = ranks_by_bases(names, bases)
    named = len(common) - 1
    sums = [rank + common[at & named] for at, rank in enumerate(structure.table())]
    table = []
    for at, least in enumerate(sums):
        # Each smaller subset lies in the set without one of its elements, where its sum is one less.
        table.append(min([least] + [table[at ^ bit] + 1 for bit in single_bits(at)]))
    return known_structure(tuple(names), table, structure.unseen)


def renamed(structure, name, fresh):
    """The structure in which a named element has another name."""
    _check_known(structure, (name,))
    if not is_name(fresh):
        raise InvalidName(fresh)
    if fresh != name and fresh in structure:
        raise DuplicateName(fresh)
    names = sorted([fresh if known == name else known for known in structure.names()])
    parts = parts_of_sets(structure, [name if known == fresh else known for known in names], 0, 0)
    table = structure.table()
    return known_structure(tuple(names), [table[part] for part in parts], structure.unseen)


def changed(structure, step):
    """The structure behind a step other than if, repeat and use."""
    if not is_single(step):
        raise InvalidStep(())
    if step[0] == "dual":
        return ~structure
    if step[0] == "cut":
        return cut(structure)
    if step[0] == "top":
        return topped(structure, step[1])
    if step[0] == "extend":
        group = step[2]
        return extended(structure, step[1], *group)
    if step[0] == "rename":
        return renamed(structure, step[1], step[2])
    if step[0] == "unite":
        return united(structure, step[1])
    if step[0] == "truncate":
        group = step[1]
        return truncated(structure, *group)
    if step[0] == "delete":
        return deleted(structure, step[1])
    return contracted(structure, step[1])


def _check_known(structure, names):
    for name in names:
        if name not in structure:
            raise UnknownName(name)


def _check_room(structure, name):
    """Raise an error unless there can be one more element with this name."""
    if name in structure:
        raise DuplicateName(name)
    if len(structure) == MOST_NAMES:
        raise TooMany("names", MOST_NAMES)
    if len(structure) + structure.unseen == Structure.MOST:
        raise TooMany("elements", Structure.MOST)


def _index_of(structure, names):
    """The index of a set of named elements."""
    known = structure.names()
    index = 0
    for name in names:
        index = index | (1 << known.index(name))
    return index


def _index_of_all(structure):
    """The index of the set of all elements."""
    return (1 << (len(structure) + structure.unseen)) - 1


def _without(structure, name):
    """The names but one, and the old indexes of all sets without its element."""
    names = tuple([known for known in structure.names() if known != name])
    return names, parts_of_sets(structure, names, 0, 0)


def _with_new(structure, name, flat):
    """The structure with a new named element in the set with this index."""
    names = tuple(sorted(structure.names() + [name]))
    parts = parts_of_sets(structure, names, 0, 0)
    fresh = sums_of_sets([1 if known == name else 0 for known in names] + [0] * structure.unseen)
    table = structure.table()
    # A set lies in the span of another one exactly if it adds nothing to its rank.
    ranks = [table[part] + min(more, table[part | flat] - table[part]) for part, more in zip(parts, fresh)]
    return known_structure(names, ranks, structure.unseen)


def _truncated_by(structure, flat):
    """The structure truncated by the set with this index."""
    table = structure.table()
    names = tuple(structure.names())
    if table[flat] == 0:
        return known_structure(names, table, structure.unseen)
    ranks = [rank - 1 if table[at | flat] == rank else rank for at, rank in enumerate(table)]
    return known_structure(names, ranks, structure.unseen)
