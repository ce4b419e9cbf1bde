import inspect
import random
import unittest

from brute import ODD_VALUES
from checking import Wrong, checked
from scripting import CUT, DUAL, WHOLE, Base, both, deep, repeat
from stepping import fitting_steps
from unseenrest import scripts
from unseenrest.errors import InvalidName, InvalidNumber, InvalidStep, InvalidText, Missing, RestError, TooMany
from unseenrest.errors import UnknownName, UnknownPiece, UnlikeEnds, UnlikeNames
from unseenrest.scripts import Script
from unseenrest.structures import Structure
from unseenrest.texts import text_of

PIECES = {"x": (CUT, ("use", "y")), "y": (("rename", "a", "a"),)}


def drawn_scripts(seed, many):
    """Drawn scripts with their names and steps."""
    drawn = random.Random(seed)
    while many:
        names = drawn.sample(["a", "b", "c"], drawn.randrange(4))
        steps = fitting_steps(drawn, names, drawn.randrange(6))
        try:
            checked(names, steps, {})
        except Wrong:
            continue
        many -= 1
        yield Script(names, steps), names, steps


class TestTelling(Base):
    def test_names_and_ends_are_ascending_and_new(self):
        script = Script(("c", "a"), (("top", "b"),))
        for make, kept in ((script.names, ["a", "c"]), (script.ends, ["a", "b", "c"])):
            found = make()
            self.assertEqual(found, kept)
            self.assertIs(type(found), list)
            found.append("z")
            self.assertEqual(make(), kept)

    def test_steps_and_plain(self):
        steps = (("use", "x"), repeat(2, ("use", "y")), both(WHOLE, (("use", "y"), CUT)))
        script = Script(["a"], steps, pieces=PIECES)
        keep = PIECES["y"][0]
        self.assertEqual(script.steps(), steps)
        self.assertEqual(script.plain(), (CUT, keep, repeat(2, keep), both(WHOLE, (keep, CUT))))
        self.assertEqual((type(script.steps()), type(script.plain())), (tuple, tuple))
        self.assertEqual(len(script), 3)

    def test_text_is_that_of_the_steps_as_they_were_passed(self):
        steps = (("use", "x"), repeat(2, ("use", "y")))
        self.assertEqual(Script(["a"], steps, pieces=PIECES).text(), "use x ; repeat 2 ( use y )")
        self.assertEqual(Script([]).text(), "")
        for script, names, steps in drawn_scripts(1, 100):
            self.assertEqual(script.text(), text_of(steps))
            self.assertEqual(Script.read(names, script.text()), script)

    def test_turned(self):
        for steps, turned in (
            ((), False), ((DUAL,), True), ((DUAL, CUT, DUAL), False), ((repeat(2, DUAL),), False),
            ((repeat(3, DUAL),), True), ((repeat(3, repeat(3, DUAL)),), True), ((repeat(2, repeat(3, DUAL)), DUAL), True),
            ((both(WHOLE, (CUT,)),), False),
        ):
            self.assertIs(Script([], steps).turned, turned)
        self.assertIs(Script([], (("use", "x"), DUAL), pieces={"x": (repeat(4, DUAL),)}).turned, True)

    def test_cuts(self):
        top = ("top", "p")
        for steps, cuts in (
            ((), (0, 0)), ((CUT,), (1, 0)), ((top,), (1, 0)), ((both(WHOLE, ()),), (1, 0)), ((DUAL, CUT), (0, 1)),
            ((CUT, DUAL, CUT), (1, 1)), ((DUAL, top, DUAL, CUT), (1, 1)), ((DUAL, DUAL, CUT), (1, 0)),
            ((repeat(3, CUT),), (3, 0)), ((repeat(3, CUT, DUAL),), (2, 1)), ((repeat(2, DUAL, CUT), CUT), (2, 1)),
            ((DUAL, repeat(3, CUT)), (0, 3)), ((repeat(3, DUAL, CUT),), (1, 2)),
            ((both(WHOLE, (CUT,), (CUT,)),), (3, 0)), ((DUAL, both(WHOLE, (CUT,), (CUT,))), (0, 3)),
            ((DUAL, both(WHOLE, ()), DUAL, both(WHOLE, ())), (1, 1)), ((both(("rank", (), 1), (CUT,)), DUAL, CUT), (1, 1)),
            ((CUT, DUAL), (1, 0)), ((repeat(1, DUAL), repeat(2, CUT), DUAL, CUT), (1, 2)),
        ):
            script = Script([], steps)
            self.assertEqual((script.cuts, type(script.cuts)), (cuts, tuple), steps)
        self.assertEqual(Script(["a"], (DUAL, ("use", "x"), ("use", "x")), pieces=PIECES).cuts, (0, 2))

    def test_the_length_and_the_repr(self):
        for names, steps, text in (
            ([], (), "Script(-: 0 steps)"), (["b", "a"], (CUT,), "Script(a b: 1 steps)"),
            (["a"], (("use", "x"), repeat(2, CUT)), "Script(a: 2 steps)"),
        ):
            script = Script(names, steps, pieces=PIECES)
            self.assertEqual((repr(script), len(script)), (text, len(steps)))

    def test_properties_cannot_be_assigned(self):
        for name in ("turned", "cuts"):
            with self.assertRaises(AttributeError):
                setattr(Script([]), name, 0)

    def test_lists_and_dicts_are_copied(self):
        names, pieces = ["b", "a"], dict(PIECES)
        script = Script(names, (("use", "x"), CUT), pieces=pieces)
        names.append("c")
        pieces["y"] = (("use", "none"),)
        del pieces["x"]
        self.assertEqual(script.names(), ["a", "b"])
        self.assertEqual(script.without(1).plain(), PIECES["x"][:1] + PIECES["y"])

    def test_arguments_stay(self):
        names, pieces = ["b", "a"], dict(PIECES)
        Script(names, (("use", "x"),), pieces=pieces).without(0)
        self.assertEqual((names, pieces), (["b", "a"], PIECES))


class TestWithoutAndSwapped(Base):
    def test_without(self):
        for script, names, steps in drawn_scripts(2, 150):
            for at in range(len(steps)):
                self.check_like(script.without, at, names, steps[:at] + steps[at + 1:])

    def test_swapped(self):
        for script, names, steps in drawn_scripts(3, 150):
            for at in range(len(steps) - 1):
                rest = steps[:at] + (steps[at + 1], steps[at]) + steps[at + 2:]
                self.check_like(script.swapped, at, names, rest)

    def check_like(self, call, at, names, steps):
        """A call does the same as the constructor: it returns the script, or it raises the error."""
        try:
            expected = Script(names, steps)
        except (RestError, Missing) as error:
            self.check_raises(type(error), vars(error), call, at)
            return
        found = call(at)
        self.assertEqual((found, found.steps(), found.names()), (expected, steps, expected.names()))

    def test_no_index(self):
        script = Script(["a"], (CUT, DUAL, CUT))
        for value in ODD_VALUES + [3, -1, -3, "0", (0,)]:
            if type(value) is not int or not 0 <= value <= 2:
                self.check_raises(InvalidNumber, {"value": value}, script.without, value)
            if type(value) is not int or not 0 <= value <= 1:
                self.check_raises(InvalidNumber, {"value": value}, script.swapped, value)
        self.check_raises(InvalidNumber, {"value": 2}, script.swapped, 2)
        self.check_raises(InvalidNumber, {"value": 0}, Script([]).without, 0)
        self.check_raises(InvalidNumber, {"value": 0}, Script([], (CUT,)).swapped, 0)
        self.assertEqual(script.without(2).steps(), (CUT, DUAL))
        self.assertEqual(script.swapped(1).steps(), (CUT, CUT, DUAL))

    def test_indexes_are_those_of_the_steps_as_they_were_passed(self):
        script = Script(["a"], (("use", "x"), ("use", "y"), DUAL), pieces=PIECES)
        self.assertEqual(script.without(0).steps(), (("use", "y"), DUAL))
        self.assertEqual(script.swapped(1).steps(), (("use", "x"), DUAL, ("use", "y")))
        self.assertEqual(script.swapped(0).plain(), PIECES["y"] + (CUT,) + PIECES["y"] + (DUAL,))
        self.check_raises(InvalidNumber, {"value": 3}, script.without, 3)

    def test_the_pieces_stay_even_if_they_are_not_used(self):
        script = Script(["a"], (("use", "x"), CUT), pieces=PIECES)
        self.assertEqual(script.without(0).steps(), (CUT,))
        self.assertEqual(script.swapped(0).swapped(0), script)
        self.assertEqual(script.without(1).without(0).steps(), ())

    def test_the_errors_of_the_constructor(self):
        script = Script([], (("extend", "p", ()), ("delete", "p")))
        self.check_raises(UnknownName, {"name": "p"}, script.without, 0)
        self.check_raises(UnknownName, {"name": "p"}, script.swapped, 0)
        self.assertEqual(script.without(1).ends(), ["p"])


class TestRead(Base):
    def test_read(self):
        script = Script.read(["b", "a"], "use x ; repeat 2 ( use y )", pieces=PIECES)
        self.assertEqual(script.steps(), (("use", "x"), repeat(2, ("use", "y"))))
        self.assertEqual(script, Script(["a", "b"], script.steps(), pieces=PIECES))
        self.assertEqual(Script.read([], "").steps(), ())

    def test_the_text_is_looked_at_first(self):
        self.check_raises(InvalidText, {"word": 1}, Script.read, [None], "cut cut")
        self.check_raises(InvalidName, {"value": None}, Script.read, [None], "cut ; delete z")
        for value in ODD_VALUES:
            if not isinstance(value, str):
                self.check_raises(InvalidText, {"word": 0}, Script.read, None, value)

    def test_then_the_errors_of_the_constructor(self):
        self.check_raises(InvalidStep, {"path": (1,)}, Script.read, [], "cut ; unite ,")
        deeper = "repeat 1 ( repeat 1 ( repeat 1 ( repeat 1 ( cut ) ) ) )"
        self.check_raises(InvalidStep, {"path": (0, 0, 0, 0, 0)}, Script.read, [], deeper)
        self.check_raises(UnknownPiece, {"piece": "x"}, Script.read, [], "use x")
        self.check_raises(UnlikeEnds, {"path": (0,)}, Script.read, ["a"], "if whole ( delete a ) else ( )")


class TestSum(Base):
    def test_the_plain_steps_one_behind_the_other(self):
        one = Script(["a"], (("use", "x"), ("top", "p")), pieces=PIECES)
        other = Script(["p", "a"], (("use", "y"), ("delete", "a")), pieces={"y": (DUAL,)})
        found = one + other
        self.assertEqual(found.steps(), (CUT,) + PIECES["y"] + (("top", "p"), DUAL, ("delete", "a")))
        self.assertEqual(found.plain(), found.steps())
        self.assertEqual((found.names(), found.ends(), found.turned, found.cuts), (["a"], ["p"], True, (2, 0)))
        self.assertEqual((len(one), len(other)), (2, 2))

    def test_drawn_scripts(self):
        drawn = list(drawn_scripts(4, 60))
        for one, names, steps in drawn:
            for other, more, behind in drawn:
                if one.ends() != sorted(more):
                    self.check_raises(UnlikeNames, {}, one.__add__, other)
                    continue
                try:
                    expected = Script(names, steps + behind)
                except (RestError, Missing) as error:
                    self.check_raises(type(error), vars(error), one.__add__, other)
                else:
                    self.assertEqual((one + other, (one + other).steps()), (expected, expected.plain()))

    def test_the_errors_in_order(self):
        many = Script(["a"], (("rename", "a", "a"),) * 13)
        self.assertEqual(len(Script(["a"], many.steps()[:11]) + many), 24)
        self.check_raises(TooMany, {"subject": "steps", "most": 24}, many.__add__, Script(["a"], many.steps()[:12]))
        self.check_raises(UnlikeNames, {}, many.__add__, Script(["b"], (("rename", "b", "b"),) * 13))
        self.check_raises(UnlikeNames, {}, many.__add__, Script(["a", "b"]))
        self.check_raises(UnlikeNames, {}, many.__add__, Script([]))
        looking = Script([], (CUT, CUT))
        self.check_raises(TooMany, {"subject": "looks", "most": 3}, looking.__add__, looking)

    def test_four_names_at_the_end_are_too_many_to_begin_with(self):
        script = Script(["a", "b", "c"], (("top", "p"),))
        self.check_raises(UnlikeNames, {}, script.__add__, Script(["a", "b", "c"]))

    def test_other_values_cannot_be_added(self):
        for value in ODD_VALUES + [Structure([], [0])]:
            with self.assertRaises(TypeError):
                Script([]) + value


class TestProduct(Base):
    def test_one_repeat_of_the_plain_steps(self):
        script = Script(["a"], (("use", "x"), DUAL), pieces=PIECES)
        for many in (1, 2, 3):
            found = script * many
            self.assertEqual(found.steps(), (("repeat", many, script.plain()),))
            self.assertEqual((found.names(), found.ends(), found.turned), (["a"], ["a"], many != 2))
        self.assertEqual((Script([]) * 4).steps(), (repeat(4),))

    def test_no_number_from_one_to_four(self):
        for script in (Script(["a"]), Script(["a"], (("delete", "a"),))):
            for value in ODD_VALUES + [0, 5, -1, "2", script]:
                if type(value) is not int or not 1 <= value <= 4:
                    with self.assertRaises(InvalidNumber) as caught:
                        script * value
                    self.assertIs(caught.exception.value, value)

    def test_once_is_always_right_and_more_must_end_as_it_begins(self):
        script = Script(["a"], (("delete", "a"),))
        self.assertEqual((script * 1).ends(), [])
        for many in (2, 3, 4):
            self.check_raises(UnlikeNames, {}, script.__mul__, many)
        self.assertEqual((Script(["a"], (("delete", "a"), ("top", "a"))) * 3).ends(), ["a"])

    def test_then_the_errors_of_the_constructor(self):
        script = Script([], (deep(4, DUAL),))
        self.check_raises(InvalidStep, {"path": (0,) * 5}, script.__mul__, 1)
        self.assertEqual((Script([], (deep(3, DUAL),)) * 2).turned, False)
        script = Script(["a"], (("rename", "a", "a"),) * 6)
        self.check_raises(TooMany, {"subject": "steps", "most": 24}, script.__mul__, 4)
        self.assertEqual(len((script * 3).plain()[0][2]), 6)
        self.check_raises(TooMany, {"subject": "looks", "most": 3}, Script([], (CUT, DUAL)).__mul__, 4)
        self.check_raises(UnlikeNames, {}, Script(["a"], (CUT, ("delete", "a"))).__mul__, 4)


class TestEqual(Base):
    def test_names_and_plain_steps_count(self):
        script = Script(["a"], (("use", "x"),), pieces=PIECES)
        self.assertTrue(script == Script(["a"], (CUT,) + PIECES["y"]))
        self.assertTrue(script == Script(("a",), (("use", "z"),), pieces={"z": (CUT, ("rename", "a", "a"))}))
        self.assertFalse(script != Script(["a"], (CUT,) + PIECES["y"]))
        for other in (Script(["a"]), Script(["a", "b"], script.plain()), Script(["a"], PIECES["y"] + (CUT,)),
                      Script(["a"], (repeat(1, *script.plain()),))):
            self.assertFalse(script == other)
            self.assertTrue(script != other)
        self.assertTrue(Script(["b", "a"]) == Script(["a", "b"]))

    def test_a_script_equals_nothing_else(self):
        for value in ODD_VALUES + [((), ()), "Script(-: 0 steps)", Structure([], [0]), Script]:
            self.assertIs(Script([]) == value, False)
            self.assertIs(Script([]) != value, True)


class TestInterface(unittest.TestCase):
    def test_parameters(self):
        either, keyword = inspect.Parameter.POSITIONAL_OR_KEYWORD, inspect.Parameter.KEYWORD_ONLY
        none = inspect.Parameter.empty
        expected = {
            "__init__": [("self", either, none), ("names", either, none), ("steps", either, ()), ("pieces", keyword, None)],
            "names": [("self", either, none)], "ends": [("self", either, none)], "steps": [("self", either, none)],
            "plain": [("self", either, none)], "text": [("self", either, none)],
            "without": [("self", either, none), ("at", either, none)],
            "swapped": [("self", either, none), ("at", either, none)],
            "read": [("names", either, none), ("text", either, none), ("pieces", keyword, None)],
        }
        for name, parameters in expected.items():
            found = inspect.signature(getattr(Script, name)).parameters.values()
            self.assertEqual([(one.name, one.kind, one.default) for one in found], parameters, name)

    def test_all_is_defined_where_it_is_listed(self):
        self.assertEqual(Script.__module__, "unseenrest.scripts")
        self.assertIs(scripts.Script, Script)
        listed = "names ends steps plain turned cuts text without swapped read MOST LOOKS".split()
        for name in listed + ["__init__", "__add__", "__mul__", "__eq__", "__len__", "__repr__"]:
            self.assertIn(name, vars(Script))
        self.assertIsInstance(vars(Script)["read"], staticmethod)
        for name in ("turned", "cuts"):
            self.assertIsInstance(vars(Script)[name], property)
        self.assertEqual((Script.MOST, Script.LOOKS), (24, 3))

    def test_arguments_by_name(self):
        script = Script(pieces=PIECES, steps=(("use", "y"), CUT), names=["a"])
        self.assertEqual(script.without(at=0).steps(), (CUT,))
        self.assertEqual(script.swapped(at=0).steps(), (CUT, ("use", "y")))
        self.assertEqual(Script.read(text="cut", names=[]).steps(), (CUT,))


if __name__ == "__main__":
    unittest.main()
