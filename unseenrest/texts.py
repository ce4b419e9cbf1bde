"""The texts of steps: writing them, and reading them back by their words."""

from unseenrest.errors import InvalidText
from unseenrest.names import is_name, is_piece

MOST_OPEN = 20
TIMES = ("1", "2", "3", "4")
RANKS = ("0", "1", "2", "3", "4", "5", "6")


def text_of(steps):
    """The text of a tuple of steps."""
    return " ".join(_words_of_steps(steps))


def read_steps(text):
    """The tuple of the steps that a text tells."""
    if not isinstance(text, str):
        raise InvalidText(0)
    if text == "":
        return ()
    words = text.split(" ")
    steps, at = _read_some(words, 0, 0)
    if at < len(words):
        raise InvalidText(at)
    return steps


def _words_of_steps(steps):
    words = []
    for at, step in enumerate(steps):
        if at > 0:
            words = words + [";"]
        words = words + _words_of_step(step)
    return words


def _words_of_step(step):
    if step[0] == "extend":
        return ["extend", step[1]] + list(step[2])
    if step[0] == "truncate":
        return ["truncate"] + list(step[1])
    if step[0] == "unite":
        return ["unite"] + _words_of_bases(step[1])
    if step[0] == "if":
        first, second = _in_brackets(step[2]), _in_brackets(step[3])
        return ["if"] + _words_of_test(step[1]) + first + ["else"] + second
    if step[0] == "repeat":
        return ["repeat", str(step[1])] + _in_brackets(step[2])
    return list(step)


def _words_of_bases(bases):
    words = []
    for at, group in enumerate(bases):
        if at > 0:
            words = words + [","]
        words = words + list(group)
    return words


def _words_of_test(test):
    if test[0] == "rank":
        return ["rank", str(test[2])] + list(test[1])
    if test[0] == "spans":
        return ["spans", test[2]] + list(test[1])
    return ["whole"]


def _in_brackets(steps):
    return ["("] + _words_of_steps(steps) + [")"]


# Each function that reads takes the words and the index of its first one, and returns what it reads with the index
# behind it. So whatever cannot stand somewhere is met at its own index, and the end of the text at their number.


def _word(words, at):
    """The word at an index; behind the end the empty word, which cannot stand anywhere either."""
    return words[at] if at < len(words) else ""


def _read_some(words, at, depth):
    """One step or more; depth is the number of open brackets."""
    step, at = _read_step(words, at, depth)
    steps = (step,)
    while _word(words, at) == ";":
        step, at = _read_step(words, at + 1, depth)
        steps = steps + (step,)
    return steps, at


def _read_step(words, at, depth):
    word = _word(words, at)
    if word in ("dual", "cut"):
        return (word,), at + 1
    if word in ("delete", "contract", "top"):
        return (word, _read_name(words, at + 1)), at + 2
    if word == "rename":
        return (word, _read_name(words, at + 1), _read_name(words, at + 2)), at + 3
    if word == "extend":
        name = _read_name(words, at + 1)
        group, at = _read_group(words, at + 2)
        return (word, name, group), at
    if word == "truncate":
        group, at = _read_group(words, at + 1)
        return (word, group), at
    if word == "unite":
        bases, at = _read_bases(words, at + 1)
        return (word, bases), at
    return _read_compound(words, at, depth)


def _read_compound(words, at, depth):
    """A step if, repeat or use."""
    word = _word(words, at)
    if word == "if":
        test, at = _read_test(words, at + 1)
        first, at = _read_brackets(words, at, depth)
        if _word(words, at) != "else":
            raise InvalidText(at)
        second, at = _read_brackets(words, at + 1, depth)
        return (word, test, first, second), at
    if word == "repeat":
        times = _read_digit(words, at + 1, TIMES)
        steps, at = _read_brackets(words, at + 2, depth)
        return (word, times, steps), at
    if word == "use":
        return (word, _read_piece(words, at + 1)), at + 2
    raise InvalidText(at)


def _read_brackets(words, at, depth):
    """The steps within brackets, perhaps none."""
    if _word(words, at) != "(" or depth == MOST_OPEN:
        raise InvalidText(at)
    steps, at = (), at + 1
    if _word(words, at) != ")":
        steps, at = _read_some(words, at, depth + 1)
    if _word(words, at) != ")":
        raise InvalidText(at)
    return steps, at + 1


def _read_test(words, at):
    word = _word(words, at)
    if word == "whole":
        return (word,), at + 1
    if word == "rank":
        rank = _read_digit(words, at + 1, RANKS)
        group, at = _read_group(words, at + 2)
        return (word, group, rank), at
    if word == "spans":
        name = _read_name(words, at + 1)
        group, at = _read_group(words, at + 2)
        return (word, group, name), at
    raise InvalidText(at)


def _read_name(words, at):
    if not is_name(_word(words, at)):
        raise InvalidText(at)
    return words[at]


def _read_piece(words, at):
    if not is_piece(_word(words, at)):
        raise InvalidText(at)
    return words[at]


def _read_digit(words, at, digits):
    if _word(words, at) not in digits:
        raise InvalidText(at)
    return int(words[at])


def _read_group(words, at):
    """The names from an index on, as long as they are ascending; perhaps none."""
    start = at
    while is_name(_word(words, at)) and (at == start or words[at - 1] < words[at]):
        at = at + 1
    return tuple(words[start:at]), at


def _read_bases(words, at):
    """The groups from an index on that are separated by commas; perhaps one empty group."""
    group, at = _read_group(words, at)
    bases = (group,)
    while _word(words, at) == ",":
        group, at = _read_group(words, at + 1)
        bases = bases + (group,)
    return bases, at
