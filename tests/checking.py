"""Point 8 of the document, word by word: the error of a script, its plain steps, ends, cuts and turn."""

from stepping import is_form


class Wrong(Exception):
    """An error of a script: the name of its class and its attributes."""

    def __init__(self, *told):
        super().__init__(*told)
        self.told = told


def parts(step):
    """The steps directly in a step, with the indexes that lead to them."""
    inner = {"if": lambda: step[2] + step[3], "repeat": lambda: step[2]}.get(step[0], lambda: ())()
    return list(enumerate(inner))


def walk(steps):
    """All values in the places of steps with their paths, each step ahead of those in it."""
    for at, step in enumerate(steps):
        yield from walk_one(step, (at,))


def walk_one(value, path):
    yield path, value
    if is_form(value):
        for inner, more in parts(value):
            yield from walk_one(more, path + (inner,))


def read_pieces(steps, pieces, within):
    for step in steps:
        if step[0] == "use":
            if step[1] in within:
                raise Wrong("Circular", step[1])
            if step[1] not in pieces:
                raise Wrong("UnknownPiece", step[1])
            read_pieces(pieces[step[1]], pieces, within + [step[1]])
        else:
            read_pieces([inner for at, inner in parts(step)], pieces, within)


def plain_of(steps, pieces):
    out = []
    for step in steps:
        if step[0] == "use":
            out += plain_of(pieces[step[1]], pieces)
        elif step[0] == "if":
            out.append(step[:2] + (plain_of(step[2], pieces), plain_of(step[3], pieces)))
        elif step[0] == "repeat":
            out.append(step[:2] + (plain_of(step[2], pieces),))
        else:
            out.append(step)
    return tuple(out)


def written(steps):
    """The single steps and the tests in the order in which they are done, repeats written out, both parts of an if."""
    for step in steps:
        if step[0] == "repeat":
            for _ in range(step[1]):
                yield from written(step[2])
        elif step[0] == "if":
            yield step[1]
            yield from written(step[2] + step[3])
        else:
            yield step


def count(steps):
    total = 0
    for step in steps:
        total += 1
        if step[0] == "repeat":
            total += step[1] * count(step[2])
        if step[0] == "if":
            total += count(step[2]) + count(step[3])
    return total


def looks(steps):
    return sum(item[0] in ("top", "cut", "whole") for item in written(steps))


def deepest(steps):
    return max([1 + deepest([inner for at, inner in parts(step)]) for step in steps], default=0)


def known(names, wanted):
    for name in wanted:
        if name not in names:
            raise Wrong("UnknownName", name)


def fresh(names, name):
    if name in names:
        raise Wrong("DuplicateName", name)
    if len(names) == 6:
        raise Wrong("TooMany", "names", 6)
    return names | {name}


def names_after(names, step, path):
    word = step[0]
    if word in ("delete", "contract"):
        known(names, [step[1]])
        return names - {step[1]}
    if word == "extend":
        known(names, step[2])
        return fresh(names, step[1])
    if word == "top":
        return fresh(names, step[1])
    if word == "truncate":
        known(names, step[1])
    if word == "unite":
        known(names, [name for base in step[1] for name in base])
    if word == "rename":
        known(names, [step[1]])
        return fresh(names - {step[1]}, step[2])
    if word == "repeat":
        for _ in range(step[1]):
            names = names_behind(names, parts(step), path)
    if word == "if":
        known(names, {"rank": lambda t: t[1], "spans": lambda t: t[1] + t[2:], "whole": lambda t: ()}[step[1][0]](step[1]))
        inner = parts(step)
        one = names_behind(names, inner[:len(step[2])], path)
        other = names_behind(names, inner[len(step[2]):], path)
        if one != other:
            raise Wrong("UnlikeEnds", path)
        return one
    return names


def names_behind(names, indexed, path):
    for at, step in indexed:
        names = names_after(names, step, path + (at,))
    return names


def checked(names, steps, pieces):
    """The plain steps, the ends, whether it is turned and the cuts of a script; raises Wrong."""
    for path, value in walk(steps):
        if len(path) > 4 or not is_form(value):
            raise Wrong("InvalidStep", path)
    read_pieces(steps, pieces, [])
    plain = plain_of(steps, pieces)
    if deepest(plain) > 4:
        raise Wrong("TooDeep", 4)
    if count(plain) > 24:
        raise Wrong("TooMany", "steps", 24)
    if looks(plain) > 3:
        raise Wrong("TooMany", "looks", 3)
    for path, step in walk(plain):
        if step == ("dual",) and any(step_at(plain, path[:many])[0] == "if" for many in range(1, len(path))):
            raise Wrong("InvalidTurn", path)
    ends = names_behind(frozenset(names), list(enumerate(plain)), ())
    done = list(written(plain))
    turns = [sum(item == ("dual",) for item in done[:at]) for at in range(len(done))]
    seen = [turn for turn, item in zip(turns, done) if item[0] in ("top", "cut", "whole")]
    cuts = (sum(turn % 2 == 0 for turn in seen), sum(turn % 2 == 1 for turn in seen))
    return plain, sorted(ends), sum(item == ("dual",) for item in done) % 2 == 1, cuts


def step_at(steps, path):
    """The step to which a path leads."""
    step = steps[path[0]]
    for at in path[1:]:
        step = parts(step)[at][1]
    return step
