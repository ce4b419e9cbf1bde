"""The forms of steps and tests, and what stands in them."""

from unseenrest.building import is_bases, names_of_bases
from unseenrest.names import is_group, is_name, is_number, is_piece

MOST_TIMES = 4
MOST_RANK = 6


def is_test(value):
    """Whether any value is a test."""
    if not isinstance(value, tuple) or len(value) == 0:
        return False
    if value[0] == "rank":
        return len(value) == 3 and is_group(value[1]) and is_number(value[2], 0, MOST_RANK)
    if value[0] == "spans":
        return len(value) == 3 and is_group(value[1]) and is_name(value[2])
    return value == ("whole",)


def is_single(value):
    """Whether any value is a step other than if, repeat and use."""
    if not isinstance(value, tuple) or len(value) == 0:
        return False
    if value[0] in ("dual", "cut"):
        return len(value) == 1
    if value[0] in ("extend", "rename"):
        return len(value) == 3 and is_name(value[1]) and _is_third(value[0], value[2])
    return len(value) == 2 and _is_second(value[0], value[1])


def is_step(value):
    """Whether any value has the form of a step, whatever stands in the places of the steps in it."""
    if is_single(value):
        return True
    if not isinstance(value, tuple) or len(value) == 0:
        return False
    if value[0] == "if":
        return len(value) == 4 and is_test(value[1]) and isinstance(value[2], tuple) and isinstance(value[3], tuple)
    if value[0] == "repeat":
        return len(value) == 3 and is_number(value[1], 1, MOST_TIMES) and isinstance(value[2], tuple)
    return value[0] == "use" and len(value) == 2 and is_piece(value[1])


def steps_within(step):
    """The steps directly in a step, those of both parts of an if, at the places that their paths tell."""
    if step[0] == "if":
        return step[2] + step[3]
    if step[0] == "repeat":
        return step[2]
    return ()


def names_tested(test):
    """The names in a test, in the order in which they stand there."""
    if test[0] == "rank":
        return test[1]
    if test[0] == "spans":
        return test[1] + (test[2],)
    return ()


def names_needed(step):
    """The names in a step other than if, repeat and use, in order, without the new one."""
    if step[0] in ("delete", "contract", "rename"):
        return (step[1],)
    if step[0] == "extend":
        return step[2]
    if step[0] == "truncate":
        return step[1]
    if step[0] == "unite":
        return tuple(names_of_bases(step[1]))
    return ()


def names_lost(step):
    """The names that are none of named elements behind a step other than if, repeat and use."""
    if step[0] in ("delete", "contract", "rename"):
        return (step[1],)
    return ()


def names_made(step):
    """The new names in a step other than if, repeat and use."""
    if step[0] in ("extend", "top"):
        return (step[1],)
    if step[0] == "rename":
        return (step[2],)
    return ()


def _is_second(word, value):
    """Whether a value can stand behind the word of a step that has one more item."""
    if word in ("delete", "contract", "top"):
        return is_name(value)
    if word == "truncate":
        return is_group(value)
    return word == "unite" and is_bases(value)


def _is_third(word, value):
    """Whether a value can stand behind the word and the name of a step that has two more items."""
    return is_group(value) if word == "extend" else is_name(value)
