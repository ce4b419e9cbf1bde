import inspect
import unittest

from brute import ODD_VALUES
from framing import all_frames, order
from samples import small
from scripting import CUT, DUAL, WHOLE, Base, both
from unseenrest import facts as module
from unseenrest.errors import InvalidFact, InvalidNumber
from unseenrest.facts import fact_rows, keeps
from unseenrest.frames import frames, led
from unseenrest.scripts import Script
from unseenrest.structures import Structure

RIGHT = [
    ("least", (), 0), ("least", (), 6), ("most", (), 0), ("most", (), 6), ("least", ("a",), 1), ("most", ("a", "b"), 2),
    ("least", ("b",), 0),
]
# None of these is a fact with the names a and b.
WRONG = ODD_VALUES + [
    ["least", ("a",), 1], ("least",), ("least", ("a",)), ("least", ("a",), 1, 1), ("Least", ("a",), 1), ("rank", ("a",), 1),
    ("", ("a",), 1), (None, ("a",), 1), (["least"], ("a",), 1), ("least", ["a"], 1), ("least", "a", 1),
    ("least", ("b", "a"), 1), ("least", ("a", "a"), 1), ("least", ("A",), 1), ("least", (1,), 1), ("least", None, 1), ("least", ("a",), 7),
    ("least", ("a",), -1), ("most", ("a",), True), ("most", ("a",), False), ("most", ("a",), "1"), ("most", ("a",), None),
    ("most", ("a",), (1,)), ("most", ("c",), 1), ("most", ("a", "c"), 1), ("least", 1, ("a",)), ("most", ("a", "b", "c"), 0),
    ("spans", ("a",), "b"), ("whole",), (("least", ("a",), 1),),
]


class TestKeeps(Base):
    def test_each_fact_by_its_definition(self):
        for structure in small():
            names = structure.names()
            groups = [(), tuple(names)] + [(name,) for name in names]
            for group in groups:
                for rank in range(7):
                    found = structure.rank(*group)
                    self.assertIs(keeps(structure, [("least", group, rank)]), found >= rank)
                    self.assertIs(keeps(structure, [("most", group, rank)]), found <= rank)
                    both_facts = [("least", group, rank), ("most", tuple(names), 1)]
                    self.assertIs(keeps(structure, both_facts), found >= rank and structure.rank(*names) <= 1)
                    self.assertIs(keeps(structure, tuple(both_facts[::-1])), found >= rank and structure.rank(*names) <= 1)

    def test_no_facts(self):
        self.assertIs(keeps(Structure([], [0]), []), True)
        self.assertIs(keeps(Structure.free(["a"]), ()), True)

    def test_unseen_elements_do_not_count(self):
        structure = Structure(["a"], [0, 0, 1, 1], unseen=1)
        self.assertIs(keeps(structure, [("least", ("a",), 1)]), False)
        self.assertIs(keeps(structure, [("most", ("a",), 0)]), True)

    def test_no_facts_with_its_names(self):
        for structure in (Structure.free(["a", "b"]), Structure.uniform(["b", "a"], 0)):
            for value in RIGHT:
                self.assertIsInstance(keeps(structure, [value]), bool)
            for value in WRONG:
                self.check_raises(InvalidFact, {"at": 0}, keeps, structure, [value])
                self.check_raises(InvalidFact, {"at": 0}, keeps, structure, (value, None))
                self.check_raises(InvalidFact, {"at": 2}, keeps, structure, [RIGHT[1], RIGHT[2], value, None])
        self.check_raises(InvalidFact, {"at": 1}, keeps, Structure([], [0]), [("least", (), 0), ("least", ("a",), 0)])

    def test_wrong_values_count_ahead_of_facts_that_are_not_kept(self):
        self.check_raises(InvalidFact, {"at": 1}, keeps, Structure.free(["a"]), [("most", ("a",), 0), None])

    def test_a_value_that_is_no_list_of_facts(self):
        for value in (None, True, 0, 7, "", "ab"):
            self.check_raises(InvalidFact, {"at": 0}, keeps, Structure.free(["a"]), value)

    def test_arguments_stay(self):
        facts = [("most", ("a",), 0), ("least", (), 0)]
        keeps(Structure.free(["a"]), facts)
        self.assertEqual(facts, [("most", ("a",), 0), ("least", (), 0)])


class TestFactRows(Base):
    def test_without_facts_there_is_a_row_for_each_frame(self):
        for names, steps in (
            ([], (CUT,)), (["a"], (("top", "p"), DUAL)), (["b", "a"], (both(WHOLE, (CUT,)), ("delete", "a"))),
        ):
            script = Script(names, steps)
            for gap in range(3):
                for spare in range(2):
                    rows = fact_rows(script, gap=gap, spare=spare)
                    self.assertEqual([frame for frame, result in rows], all_frames(sorted(names), gap, spare))
                    self.assertEqual([result for frame, result in rows], [led(script, frame) for frame, result in rows])

    def test_just_the_frames_whose_first_structure_keeps_the_facts(self):
        script = Script(["a", "b"], (("contract", "a"), CUT))
        for facts in (
            [("least", ("a",), 1)], [("most", ("a",), 0)], [("least", ("a", "b"), 2), ("most", ("b",), 1)],
            [("most", ("a", "b"), 1), ("least", ("b",), 1)], [("least", (), 1)], [("least", ("a",), 1), ("most", ("a",), 0)],
        ):
            rows = fact_rows(script, facts=facts, gap=1, spare=1)
            expected = [frame for frame in frames(["a", "b"], gap=1, spare=1) if keeps(frame.first, facts)]
            self.assertEqual([frame for frame, result in rows], expected)
            self.assertEqual(rows, [(frame, led(script, frame)) for frame in expected])
        self.assertEqual(rows, [])

    def test_the_kinds_and_the_order(self):
        rows = fact_rows(Script(["a"], (DUAL,)), gap=2, spare=2)
        self.assertIs(type(rows), list)
        for row in rows:
            self.assertEqual((type(row), len(row)), (tuple, 2))
        keys = [order(frame) for frame, result in rows]
        self.assertEqual(keys, sorted(keys))
        self.assertEqual(len(fact_rows(Script(["a"]))), 4)
        self.assertEqual(len(fact_rows(Script([]), gap=4, spare=4)), 225)

    def test_facts_are_about_the_names_of_the_script_at_its_beginning(self):
        script = Script(["a"], (("rename", "a", "b"),))
        self.check_raises(InvalidFact, {"at": 0}, fact_rows, script, facts=[("least", ("b",), 0)])
        self.assertEqual(len(fact_rows(script, facts=[("least", ("a",), 1)])), 3)

    def test_errors_of_facts(self):
        script = Script(["b", "a"])
        for value in WRONG:
            self.check_raises(InvalidFact, {"at": 0}, fact_rows, script, facts=[value], gap=9)
            self.check_raises(InvalidFact, {"at": 1}, fact_rows, script, facts=(RIGHT[0], value, None), spare=None)
        self.check_raises(InvalidFact, {"at": 0}, fact_rows, script, facts=None, gap=9)

    def test_errors_of_numbers(self):
        script = Script(["a"])
        for value in ODD_VALUES + [5, -1, "4", (0,)]:
            if type(value) is not int or not 0 <= value <= 4:
                self.check_raises(InvalidNumber, {"value": value}, fact_rows, script, gap=value, spare=None)
                self.check_raises(InvalidNumber, {"value": value}, fact_rows, script, gap=0, spare=value)
                self.check_raises(InvalidNumber, {"value": value}, fact_rows, script, facts=[("least", (), 1)], gap=value)


class TestInterface(unittest.TestCase):
    def test_parameters(self):
        either, keyword = inspect.Parameter.POSITIONAL_OR_KEYWORD, inspect.Parameter.KEYWORD_ONLY
        none = inspect.Parameter.empty
        expected = {
            "keeps": [("structure", either, none), ("facts", either, none)],
            "fact_rows": [("script", either, none), ("facts", keyword, ()), ("gap", keyword, 0), ("spare", keyword, 0)],
        }
        for name, parameters in expected.items():
            function = getattr(module, name)
            self.assertEqual(function.__module__, "unseenrest.facts")
            found = inspect.signature(function).parameters.values()
            self.assertEqual([(one.name, one.kind, one.default) for one in found], parameters)

    def test_arguments_by_name(self):
        self.assertIs(keeps(facts=[], structure=Structure([], [0])), True)
        self.assertEqual(len(fact_rows(spare=1, gap=1, facts=[], script=Script([]))), 9)


if __name__ == "__main__":
    unittest.main()
