"""Running scripts on structures."""

from unseenrest.changes import changed
from unseenrest.errors import UnlikeNames
from unseenrest.structures import Structure


def holds_in(structure, test):
    """Whether a test holds in a structure that has its names."""
    if test[0] == "whole":
        return structure.gap() == 0
    group = test[1]
    if test[0] == "rank":
        return structure.rank(*group) >= test[2]
    return test[2] in structure.span(*group)


def run(script, structure):
    """The structure behind the script."""
    last = structure
    for _, behind in trace(script, structure):
        last = behind
    return last


def trace(script, structure):
    """The pairs of each single step that is done and the structure behind it."""
    if not isinstance(structure, Structure) or structure.names() != script.names():
        raise UnlikeNames()
    now = structure
    todo = list(script.plain()[::-1])
    while todo:
        step = todo.pop()
        if step[0] == "if":
            todo.extend(chosen_steps(step, holds_in(now, step[1]))[::-1])
        elif step[0] == "repeat":
            todo.extend(repeated_steps(step)[::-1])
        else:
            now = changed(now, step)
            yield step, now


def chosen_steps(step, holds):
    """The steps that an if does, whose test holds or not."""
    return step[2] if holds else step[3]


def repeated_steps(step):
    """The steps that a repeat does, as often as it does them."""
    return step[2] * step[1]
