"""Scripts with drawn steps, right ones and wrong ones, against point 8 written out."""

import random
import unittest

from checking import Wrong, checked
from stepping import RIGHT_COMPOUNDS, RIGHT_SINGLES, WRONG_STEPS, drawn_step, fitting_steps, is_form
from unseenrest import errors
from unseenrest.scripts import Script


def spoiled(drawn, steps, value):
    """The steps with a value in the place of one of them, or behind them, at any depth."""
    at = drawn.randrange(len(steps) + 1)
    if at == len(steps) or not is_form(steps[at]) or drawn.random() < 0.3:
        return steps[:at] + (value,) + steps[at + drawn.choice([0, 1]):]
    if steps[at][0] == "repeat":
        return steps[:at] + (("repeat", steps[at][1], spoiled(drawn, steps[at][2], value)),) + steps[at + 1:]
    if steps[at][0] == "if":
        part = drawn.choice([2, 3])
        step = list(steps[at])
        step[part] = spoiled(drawn, step[part], value)
        return steps[:at] + (tuple(step),) + steps[at + 1:]
    return steps[:at] + (value,) + steps[at + drawn.choice([0, 1]):]


def moved_into_pieces(drawn, steps, pieces, word):
    """The steps with a run of them replaced by the use of a piece with just these."""
    start = drawn.randrange(len(steps) + 1)
    end = drawn.randrange(start, len(steps) + 1)
    pieces[word] = steps[start:end]
    return steps[:start] + (("use", word),) + steps[end:]


class TestChecked(unittest.TestCase):
    def setUp(self):
        self.seen = {}

    def check(self, names, steps, pieces):
        try:
            expected = checked(names, steps, pieces)
        except Wrong as wrong:
            self.check_wrong(wrong.told, names, steps, pieces)
            return
        script = Script(names, steps, pieces=pieces)
        found = (script.plain(), script.ends(), script.turned, script.cuts)
        self.assertEqual(repr(found), repr(expected), (names, steps, pieces))
        self.assertEqual((script.names(), script.steps()), (sorted(names), steps))
        self.seen["right"] = self.seen.get("right", 0) + 1

    def check_wrong(self, told, names, steps, pieces):
        expected = getattr(errors, told[0])(*told[1:])
        with self.assertRaises((errors.RestError, errors.Missing)) as caught:
            Script(names, steps, pieces=pieces)
        self.assertIs(type(caught.exception), type(expected), (names, steps, pieces, told))
        self.assertEqual(repr(vars(caught.exception)), repr(vars(expected)), (names, steps, pieces))
        kind = told[0] + (" " + told[1] if told[0] == "TooMany" else "")
        self.seen[kind] = self.seen.get(kind, 0) + 1

    def names(self, drawn):
        return drawn.sample(["a", "b", "c", "d"], drawn.randrange(4))

    def test_fitting_steps(self):
        drawn = random.Random(8)
        for _ in range(2500):
            names = self.names(drawn)
            self.check(names, fitting_steps(drawn, names, drawn.randrange(9)), {})
        self.assertGreater(self.seen["right"], 1000)
        for kind in ("TooMany steps", "TooMany looks"):
            self.assertGreater(self.seen[kind], 20, kind)

    def test_spoiled_steps(self):
        drawn = random.Random(9)
        for _ in range(4000):
            names = self.names(drawn)
            steps = fitting_steps(drawn, names, drawn.randrange(6))
            for _ in range(drawn.choice([1, 1, 2])):
                value = drawn.choice([
                    drawn.choice(WRONG_STEPS), drawn.choice(RIGHT_SINGLES), drawn.choice(RIGHT_COMPOUNDS), ("dual",),
                    drawn_step(drawn, 3), ("repeat", 2, (("repeat", 1, (("repeat", 1, (("dual",),)),)),)),
                    ("extend", drawn.choice("abpq"), ()), ("delete", drawn.choice("abpq")),
                ])
                steps = spoiled(drawn, steps, value)
            self.check(names, steps, {})
        for kind in ("InvalidStep", "InvalidTurn", "UnknownName", "DuplicateName", "UnlikeEnds", "UnknownPiece", "right"):
            self.assertGreater(self.seen[kind], 20, kind)

    def test_pieces(self):
        drawn = random.Random(10)
        for _ in range(4000):
            names = self.names(drawn)
            pieces = {}
            steps = fitting_steps(drawn, names, drawn.randrange(8))
            for word in drawn.sample(["x", "y", "z", "w"], drawn.randrange(1, 4)):
                steps = moved_into_pieces(drawn, steps, pieces, word)
            if drawn.random() < 0.4:
                word = drawn.choice(["x", "y", "z", "w", "v"])
                some = drawn.choice(sorted(pieces))
                if drawn.random() < 0.5:
                    pieces[some] = spoiled(drawn, pieces[some], ("use", word))
                else:
                    steps = spoiled(drawn, steps, ("use", word))
            if drawn.random() < 0.3:
                steps = (("repeat", 1, (("repeat", 1, (("repeat", 1, steps),)),)),)
            self.check(names, steps, pieces)
        for kind in ("Circular", "UnknownPiece", "TooDeep", "TooMany steps", "TooMany looks", "right"):
            self.assertGreater(self.seen[kind], 20, kind)

    def test_too_many_names(self):
        drawn = random.Random(11)
        for _ in range(600):
            names = self.names(drawn)
            steps = tuple(("extend", name, ()) for name in drawn.sample("abcdefghpqrs", drawn.randrange(2, 9)))
            self.check(names, spoiled(drawn, steps, ("top", drawn.choice("ab"))), {})
        for kind in ("TooMany names", "DuplicateName", "right"):
            self.assertGreater(self.seen[kind], 50, kind)


if __name__ == "__main__":
    unittest.main()
