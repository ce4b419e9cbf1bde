"""What is a name, a piece, a group and a number, and the lists of names that begin most objects."""

from unseenrest.errors import DuplicateName, InvalidName, TooMany


def is_name(value):
    """Whether any value is a name: 1 to 4 lowercase letters."""
    return _is_word(value, 4)


def is_piece(value):
    """Whether any value is a piece: 1 to 6 lowercase letters."""
    return _is_word(value, 6)


def is_group(value):
    """Whether any value is a group: a tuple of different names, ascending."""
    if not isinstance(value, tuple) or not all([is_name(name) for name in value]):
        return False
    return all([value[at - 1] < value[at] for at in range(1, len(value))])


def is_number(value, least, most):
    """Whether any value is a number from least to most."""
    # Python counts True and False as integers; here they are no numbers.
    return isinstance(value, int) and not isinstance(value, bool) and least <= value <= most


def checked_names(names, most):
    """The ascending tuple of a list of names, with the errors of all constructors that take such a list."""
    if not isinstance(names, (list, tuple)):
        raise InvalidName(names)
    for name in names:
        if not is_name(name):
            raise InvalidName(name)
    for at, name in enumerate(names):
        if name in names[:at]:
            raise DuplicateName(name)
    if len(names) > most:
        raise TooMany("names", most)
    return tuple(sorted(names))


def names_shown(names):
    """The names as they stand in a repr."""
    return " ".join(names) or "-"


def _is_word(value, most):
    # Not islower: it takes letters beyond a to z, and digits beside a letter.
    return isinstance(value, str) and 1 <= len(value) <= most and all(["a" <= sign <= "z" for sign in value])
