"""Steps, tests and texts to try things on: right ones, wrong ones and drawn ones."""

from brute import ODD_VALUES

GROUPS = [(), ("a",), ("b",), ("a", "b"), ("a", "b", "zzzz"), ("a", "b", "c", "d", "e", "f", "g")]
BASES = [
    ((),), (("a",),), (("a",), ("b",)), (("b",), ("a",)), (("a", "b"),), (("a", "b"), ("a", "c"), ("b", "c")),
    (("a", "b"), ("a", "d"), ("b", "c"), ("c", "d")), (("a", "b", "c", "d", "e", "f"),),
]
# Each with the index that InvalidBases has.
NO_BASES = [
    (value, 0) for value in ODD_VALUES if not (isinstance(value, tuple) and value)
] + [
    ((("a",), ["b"]), 1), (((), ((),)), 1), ((0,), 0), (["a"], 0), ([("a",)], 0), ("ab", 0), (("a",), 0), (("a", "b"), 0), ((("b", "a"),), 0),
    ((("a", "a"),), 0), ((("A",),), 0), ((("a", 1),), 0), (((), ("a",)), 1), ((("a",), ()), 1), ((("a",), ("a",)), 1),
    (((), ()), 1), ((("a",), ("b",), ("a", "b"), None), 2), ((("a",), ("b",), ("b",), ("c", "d")), 2),
    ((("a",), None, ("a",)), 1), ((("a", "b"), ("c", "d")), 2), ((("a", "b"), ("a", "c"), ("a", "d"), ("b", "c")), 4),
    ((("a", "b", "c"), ("d", "e", "f")), 2), ((("a", "b", "c", "d", "e", "f", "g"),), 1),
    ((("a",), ("b",), ("c",), ("d",), ("e",), ("f",), ("g",)), 7), ((("a", "b"), ("c", "d"), ("a", "b")), 2),
    ((("a",), ("b",), ("c",), ("d",), ("e",), ("f",), ("g",), 5), 7), ((("a", "b"), ("c", "d"), ()), 2),
]

RIGHT_TESTS = [
    ("rank", (), 0), ("rank", (), 6), ("rank", ("a", "b"), 1), ("spans", (), "a"), ("spans", ("a", "b"), "zzzz"),
    ("spans", ("a",), "a"), ("whole",),
]
WRONG_TESTS = [value for value in ODD_VALUES] + [
    ("rank",), ("rank", ()), ("rank", (), 7), ("rank", (), -1), ("rank", (), True), ("rank", (), "1"), ("rank", (), None),
    ("rank", ["a"], 1), ("rank", "a", 1), ("rank", ("b", "a"), 1), ("rank", ("a", "a"), 1), ("rank", (1,), 1),
    ("rank", 1, ("a",)), ("rank", ("a",), 1, 1), ("spans",), ("spans", ()), ("spans", (), ""), ("spans", (), "abcde"),
    ("spans", (), None), ("spans", "a", ()), ("spans", ("b", "a"), "a"), ("spans", ["a"], "a"), ("spans", (), "a", "b"),
    ("spans", (), ("a",)), ("whole", ()), ("whole", 1), ("Whole",), ["whole"], "whole", (("whole",),), ("least", ("a",), 1),
    ["rank", ("a",), 1], ("rank", ("A",), 1), (None, (), 1), (["rank"], (), 1), ("rank", ("a", "b", "a"), 2),
]

RIGHT_SINGLES = (
    [("delete", "a"), ("delete", "cut"), ("contract", "a"), ("dual",), ("cut",), ("top", "p"), ("top", "abcd")]
    + [("extend", "p", group) for group in GROUPS]
    + [("truncate", group) for group in GROUPS]
    + [("unite", bases) for bases in BASES]
    + [("rename", "a", "p"), ("rename", "a", "a"), ("extend", "a", ("a",))]
)
RIGHT_COMPOUNDS = [
    ("use", "a"), ("use", "abcdef"), ("repeat", 1, ()), ("repeat", 4, (("cut",), ("dual",))),
    ("repeat", 2, (("repeat", 3, (("use", "x"),)),)), ("if", ("whole",), (), ()),
    ("if", ("rank", ("a",), 1), (("cut",),), ()), ("if", ("spans", (), "a"), (), (("delete", "a"),)),
]
# None of these has the form of a step, whatever stands in the places of the steps in it.
WRONG_STEPS = [value for value in ODD_VALUES] + [
    "dual", "cut", ["dual"], ["cut"], ("Dual",), ("dual", ()), ("cut", "a"), ("dual", None), (("dual",),), ("none",),
    ("delete",), ("delete", "abcde"), ("delete", ""), ("delete", "A"), ("delete", None), ("delete", ("a",)),
    ("delete", "a", "b"), ["delete", "a"], ("delete", True), ("contract",), ("contract", 1), ("contract", "a", "a"),
    ("contract", "a b"), ("top",), ("top", ()), ("top", "P"), ("top", "p", ()), ("top", 0), (None, "a"), (["delete"], "a"),
    ("extend",), ("extend", "p"), ("extend", "p", "a"), ("extend", "p", ["a"]), ("extend", "p", ("b", "a")),
    ("extend", "p", ("a", "a")), ("extend", "p", ("A",)), ("extend", "abcde", ()), ("extend", None, ()), ("extend", (), "p"),
    ("extend", "p", (), ()), ("extend", "p", None), ("extend", "p", (("a",),)), ("truncate",), ("truncate", "a"),
    ("truncate", ["a"]), ("truncate", ("b", "a")), ("truncate", ("a", "a")), ("truncate", ("a",), ()), ("truncate", None),
    ("truncate", (None,)), ("rename", "a"), ("rename", "a", "abcde"), ("rename", "abcde", "a"), ("rename", "a", None),
    ("rename", None, "a"), ("rename", "a", "b", "c"), ("rename", ("a", "b")), ("rename", "a", ("b",)), ("unite",),
    ("unite", ((),), ((),)),
] + [("unite", bases) for bases, at in NO_BASES] + [
    ("use",), ("use", ""), ("use", "abcdefg"), ("use", "A"), ("use", None), ("use", ("x",)), ("use", "x", "y"),
    ("repeat",), ("repeat", 2), ("repeat", 0, ()), ("repeat", 5, ()), ("repeat", -1, ()), ("repeat", True, ()),
    ("repeat", "2", ()), ("repeat", None, ()), ("repeat", 2, []), ("repeat", 2, "cut"), ("repeat", 2, None),
    ("repeat", 2, [("cut",)]), ("repeat", 2, (), ()), ("repeat", (), 2), ("if",), ("if", ("whole",)),
    ("if", ("whole",), ()), ("if", ("whole",), (), (), ()), ("if", ("whole",), [], ()), ("if", ("whole",), (), []),
    ("if", ("whole",), None, ()), ("if", ("whole",), (), "cut"), ("if", (), (), ()), ("if", "whole", (), ()),
] + [("if", test, (), ()) for test in WRONG_TESTS]

NAMES = ["a", "b", "c", "p", "zzzz", "cut", "else", "if"]


def drawn_group(random):
    return tuple(sorted(random.sample(NAMES, random.choice([0, 1, 1, 2, 3]))))


def drawn_test(random):
    return random.choice([
        ("rank", drawn_group(random), random.randrange(7)), ("spans", drawn_group(random), random.choice(NAMES)), ("whole",),
    ])


def drawn_bases(random):
    """Groups that are bases or not: a text is read by its words alone."""
    return tuple(drawn_group(random) for _ in range(random.choice([1, 1, 2, 3])))


def drawn_step(random, depth):
    """A step of any kind, with steps in it up to a depth."""
    kinds = [
        lambda: ("delete", random.choice(NAMES)), lambda: ("contract", random.choice(NAMES)), lambda: ("dual",),
        lambda: ("extend", random.choice(NAMES), drawn_group(random)), lambda: ("top", random.choice(NAMES)),
        lambda: ("truncate", drawn_group(random)), lambda: ("cut",), lambda: ("unite", drawn_bases(random)),
        lambda: ("rename", random.choice(NAMES), random.choice(NAMES)), lambda: ("use", random.choice(NAMES + ["pieces"])),
    ]
    if depth > 1:
        kinds += [
            lambda: ("if", drawn_test(random), drawn_steps(random, depth - 1), drawn_steps(random, depth - 1)),
            lambda: ("repeat", random.randrange(1, 5), drawn_steps(random, depth - 1)),
        ] * 2
    return random.choice(kinds)()


def drawn_steps(random, depth):
    return tuple(drawn_step(random, depth) for _ in range(random.choice([0, 1, 1, 2, 3])))
