"""Steps, tests and texts to try things on: right ones, wrong ones and drawn ones."""

import re
from itertools import combinations

from brute import ODD_VALUES, exchanges

GROUPS = [(), ("a",), ("b",), ("a", "b"), ("a", "b", "zzzz"), ("a", "b", "c", "d", "e", "f", "g")]
BASES = [
    ((),), (("a",),), (("a",), ("b",)), (("b",), ("a",)), (("a", "b"),), (("a", "b"), ("a", "c"), ("b", "c")),
    (("a", "b"), ("a", "d"), ("b", "c"), ("c", "d")), (("a", "b", "c", "d", "e", "f"),),
]
# Each with the index that InvalidBases has.
NO_BASES = [
    (value, 0) for value in ODD_VALUES if not (isinstance(value, tuple) and value)
] + [
    ((("a",), ["b"]), 1), (((), ((),)), 1), ((0,), 0), (["a"], 0), ([("a",)], 0), ("ab", 0), (("a",), 0), (("a", "b"), 0),
    ((("b", "a"),), 0), ((("a", "a"),), 0), ((("A",),), 0), ((("a", 1),), 0), (((), ("a",)), 1), ((("a",), ()), 1), ((("a",), ("a",)), 1),
    (((), ()), 1), ((("a",), ("b",), ("a", "b"), None), 2), ((("a",), ("b",), ("b",), ("c", "d")), 2),
    ((("a",), None, ("a",)), 1), ((("a", "b"), ("c", "d")), 2), ((("a", "b"), ("a", "c"), ("a", "d"), ("b", "c")), 4),
    ((("a", "b", "c"), ("d", "e", "f")), 2), ((("a", "b", "c", "d", "e", "f", "g"),), 1),
    ((("a",), ("b",), ("c",), ("d",), ("e",), ("f",), ("g",)), 7), ((("a", "b"), ("c", "d"), ("a", "b")), 2),
    ((("a",), ("b",), ("c",), ("d",), ("e",), ("f",), ("g",), 5), 7), ((("a", "b"), ("c", "d"), ()), 2),
]

RIGHT_TESTS = [
    ("rank", (), 0), ("rank", (), 6), ("rank", ("a", "b"), 1), ("spans", (), "a"), ("spans", ("a", "b"), "zzzz"),
    ("spans", ("a",), "a"), ("whole",),
]
WRONG_TESTS = [value for value in ODD_VALUES] + [
    ("rank",), ("rank", ()), ("rank", (), 7), ("rank", (), -1), ("rank", (), True), ("rank", (), "1"), ("rank", (), None),
    ("rank", ["a"], 1), ("rank", "a", 1), ("rank", ("b", "a"), 1), ("rank", ("a", "a"), 1), ("rank", (1,), 1),
    ("rank", 1, ("a",)), ("rank", ("a",), 1, 1), ("spans",), ("spans", ()), ("spans", (), ""), ("spans", (), "abcde"),
    ("spans", (), None), ("spans", "a", ()), ("spans", ("b", "a"), "a"), ("spans", ["a"], "a"), ("spans", (), "a", "b"),
    ("spans", (), ("a",)), ("whole", ()), ("whole", 1), ("Whole",), ["whole"], "whole", (("whole",),), ("least", ("a",), 1),
    ["rank", ("a",), 1], ("rank", ("A",), 1), (None, (), 1), (["rank"], (), 1), ("rank", ("a", "b", "a"), 2),
]

RIGHT_SINGLES = (
    [("delete", "a"), ("delete", "cut"), ("contract", "a"), ("dual",), ("cut",), ("top", "p"), ("top", "abcd")]
    + [("extend", "p", group) for group in GROUPS]
    + [("truncate", group) for group in GROUPS]
    + [("unite", bases) for bases in BASES]
    + [("rename", "a", "p"), ("rename", "a", "a"), ("extend", "a", ("a",))]
)
RIGHT_COMPOUNDS = [
    ("use", "a"), ("use", "abcdef"), ("repeat", 1, ()), ("repeat", 4, (("cut",), ("dual",))),
    ("repeat", 2, (("repeat", 3, (("use", "x"),)),)), ("if", ("whole",), (), ()),
    ("if", ("rank", ("a",), 1), (("cut",),), ()), ("if", ("spans", (), "a"), (), (("delete", "a"),)),
]
# None of these has the form of a step, whatever stands in the places of the steps in it.
WRONG_STEPS = [value for value in ODD_VALUES] + [
    "dual", "cut", ["dual"], ["cut"], ("Dual",), ("dual", ()), ("cut", "a"), ("dual", None), (("dual",),), ("none",),
    ("delete",), ("delete", "abcde"), ("delete", ""), ("delete", "A"), ("delete", None), ("delete", ("a",)),
    ("delete", "a", "b"), ["delete", "a"], ("delete", True), ("contract",), ("contract", 1), ("contract", "a", "a"),
    ("contract", "a b"), ("top",), ("top", ()), ("top", "P"), ("top", "p", ()), ("top", 0), (None, "a"), (["delete"], "a"),
    ("extend",), ("extend", "p"), ("extend", "p", "a"), ("extend", "p", ["a"]), ("extend", "p", ("b", "a")),
    ("extend", "p", ("a", "a")), ("extend", "p", ("A",)), ("extend", "abcde", ()), ("extend", None, ()), ("extend", (), "p"),
    ("extend", "p", (), ()), ("extend", "p", None), ("extend", "p", (("a",),)), ("truncate",), ("truncate", "a"),
    ("truncate", ["a"]), ("truncate", ("b", "a")), ("truncate", ("a", "a")), ("truncate", ("a",), ()), ("truncate", None),
    ("truncate", (None,)), ("rename", "a"), ("rename", "a", "abcde"), ("rename", "abcde", "a"), ("rename", "a", None),
    ("rename", None, "a"), ("rename", "a", "b", "c"), ("rename", ("a", "b")), ("rename", "a", ("b",)), ("unite",),
    ("unite", ((),), ((),)),
] + [("unite", bases) for bases, at in NO_BASES] + [
    ("use",), ("use", ""), ("use", "abcdefg"), ("use", "A"), ("use", None), ("use", ("x",)), ("use", "x", "y"),
    ("repeat",), ("repeat", 2), ("repeat", 0, ()), ("repeat", 5, ()), ("repeat", -1, ()), ("repeat", True, ()),
    ("repeat", "2", ()), ("repeat", None, ()), ("repeat", 2, []), ("repeat", 2, "cut"), ("repeat", 2, None),
    ("repeat", 2, [("cut",)]), ("repeat", 2, (), ()), ("repeat", (), 2), ("if",), ("if", ("whole",)),
    ("if", ("whole",), ()), ("if", ("whole",), (), (), ()), ("if", ("whole",), [], ()), ("if", ("whole",), (), []),
    ("if", ("whole",), None, ()), ("if", ("whole",), (), "cut"), ("if", (), (), ()), ("if", "whole", (), ()),
] + [("if", test, (), ()) for test in WRONG_TESTS]

NAMES = ["a", "b", "c", "p", "zzzz", "cut", "else", "if"]


def drawn_group(random):
    return tuple(sorted(random.sample(NAMES, random.choice([0, 1, 1, 2, 3]))))


def drawn_test(random):
    return random.choice([
        ("rank", drawn_group(random), random.randrange(7)), ("spans", drawn_group(random), random.choice(NAMES)), ("whole",),
    ])


def drawn_bases(random):
    """Groups that are bases or not: a text is read by its words alone."""
    return tuple(drawn_group(random) for _ in range(random.choice([1, 1, 2, 3])))


def drawn_step(random, depth):
    """A step of any kind, with steps in it up to a depth."""
    kinds = [
        lambda: ("delete", random.choice(NAMES)), lambda: ("contract", random.choice(NAMES)), lambda: ("dual",),
        lambda: ("extend", random.choice(NAMES), drawn_group(random)), lambda: ("top", random.choice(NAMES)),
        lambda: ("truncate", drawn_group(random)), lambda: ("cut",), lambda: ("unite", drawn_bases(random)),
        lambda: ("rename", random.choice(NAMES), random.choice(NAMES)), lambda: ("use", random.choice(NAMES + ["pieces"])),
    ]
    if depth > 1:
        kinds += [
            lambda: ("if", drawn_test(random), drawn_steps(random, depth - 1), drawn_steps(random, depth - 1)),
            lambda: ("repeat", random.randrange(1, 5), drawn_steps(random, depth - 1)),
        ] * 2
    return random.choice(kinds)()


def drawn_steps(random, depth):
    return tuple(drawn_step(random, depth) for _ in range(random.choice([0, 1, 1, 2, 3])))


def is_word(value, most):
    return isinstance(value, str) and re.fullmatch("[a-z]{1,%d}" % most, value) is not None


def is_names(value):
    return isinstance(value, tuple) and all(is_word(name, 4) for name in value) and list(value) == sorted(set(value))


def is_digit(value, least, most):
    return type(value) is int and least <= value <= most


def is_family(value):
    """Whether a value is bases, by point 5."""
    if not isinstance(value, tuple) or not value or not all(is_names(group) for group in value):
        return False
    if len({len(group) for group in value}) > 1 or len(set(value)) < len(value):
        return False
    names = {name for group in value for name in group}
    return len(names) <= 6 and exchanges([frozenset(group) for group in value])


FORMS = {
    "delete": [lambda e: is_word(e, 4)], "contract": [lambda e: is_word(e, 4)], "dual": [], "cut": [],
    "extend": [lambda p: is_word(p, 4), is_names], "top": [lambda p: is_word(p, 4)], "truncate": [is_names],
    "unite": [is_family], "rename": [lambda e: is_word(e, 4), lambda p: is_word(p, 4)],
    "if": [lambda test: is_question(test), lambda one: isinstance(one, tuple), lambda other: isinstance(other, tuple)],
    "repeat": [lambda n: is_digit(n, 1, 4), lambda steps: isinstance(steps, tuple)], "use": [lambda x: is_word(x, 6)],
}
QUESTIONS = {
    "rank": [is_names, lambda k: is_digit(k, 0, 6)], "spans": [is_names, lambda e: is_word(e, 4)], "whole": [],
}


def fits(value, forms):
    if not isinstance(value, tuple) or not value or not isinstance(value[0], str) or value[0] not in forms:
        return False
    checks = forms[value[0]]
    return len(value) == len(checks) + 1 and all(check(item) for check, item in zip(checks, value[1:]))


def is_question(value):
    """Whether a value is a test, by point 7."""
    return fits(value, QUESTIONS)


def is_form(value):
    """Whether a value is of the form of a step, by point 7."""
    return fits(value, FORMS)


def fitting_group(random, names):
    return tuple(sorted(random.sample(sorted(names), random.randrange(min(3, len(names)) + 1))))


def fitting_test(random, names):
    kinds = [("rank", fitting_group(random, names), random.randrange(4)), ("whole",)]
    if names:
        kinds += [("spans", fitting_group(random, names), random.choice(sorted(names)))] * 2
    return random.choice(kinds)


def fitting_bases(random, names):
    names = sorted(names)
    size = random.randrange(min(2, len(names)) + 1)
    chosen = sorted(random.sample(names, random.randrange(size, min(4, len(names)) + 1)))
    return tuple(random.sample(list(combinations(chosen, size)), len(list(combinations(chosen, size)))))


def fitting_single(random, names, turns):
    """A single step for structures with these names, and the names behind it."""
    kinds = [("truncate", fitting_group(random, names)), ("unite", fitting_bases(random, names)), ("cut",)]
    if turns:
        kinds += [("dual",)] * 2
    free = [name for name in ("a", "b", "c", "d", "p", "q", "r") if name not in names]
    if len(names) < 6:
        kinds += [("top", random.choice(free))] + [("extend", random.choice(free), fitting_group(random, names))] * 3
    if names:
        name = random.choice(sorted(names))
        kinds += [("delete", name), ("contract", name), ("rename", name, random.choice(free + [name]))]
    step = random.choice(kinds)
    lost = {step[1]} if step[0] in ("delete", "contract", "rename") else set()
    made = {step[1]} if step[0] in ("extend", "top") else {step[2]} if step[0] == "rename" else set()
    return step, (set(names) - lost) | made


def keeping_steps(random, names, depth, turns):
    """Steps that end with the names with which they begin."""
    steps = ()
    for _ in range(random.choice([0, 1, 1, 2])):
        step, ends = fitting_step(random, names, depth, turns)
        if ends == set(names):
            steps += (step,)
    return steps


def fitting_step(random, names, depth, turns):
    """A step for structures with these names, and the names behind it; its steps stand up to so deep."""
    kind = random.choice(["single", "single", "if", "repeat"]) if depth > 1 else "single"
    if kind == "repeat":
        return ("repeat", random.choice([1, 1, 2, 2, 3]), keeping_steps(random, names, depth - 1, turns)), set(names)
    if kind == "if":
        first, second = (keeping_steps(random, names, depth - 1, False) for _ in range(2))
        both, ends = fitting_single(random, names, False)
        if random.choice([True, False]):
            return ("if", fitting_test(random, names), first + (both,), second + (both,)), ends
        return ("if", fitting_test(random, names), first, second), set(names)
    return fitting_single(random, names, turns)


def fitting_steps(random, names, many, depth=4):
    """Steps for structures with these names; most of these make a script."""
    steps = ()
    for _ in range(many):
        step, names = fitting_step(random, names, depth, True)
        steps += (step,)
    return steps
