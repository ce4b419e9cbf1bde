"""The names of a script, the forms of its steps, its pieces and its bounds, in the order of their errors."""

import unittest

from brute import ODD_VALUES
from scripting import CUT, DUAL, WHOLE, Base, both, deep, repeat
from stepping import RIGHT_COMPOUNDS, RIGHT_SINGLES, RIGHT_TESTS, WRONG_STEPS, WRONG_TESTS
from unseenrest.errors import Circular, DuplicateName, InvalidName, InvalidStep, InvalidTurn, TooDeep, TooMany
from unseenrest.errors import UnknownName, UnknownPiece
from unseenrest.scripts import Script

LONE_ODD = [value for value in ODD_VALUES if value != "a"]
# A step that is kept by any structure with the name a.
KEEP = ("truncate", ())


class TestNames(Base):
    def test_values_that_are_no_names(self):
        for value in LONE_ODD:
            self.check_script(InvalidName, {"value": value}, ["a", value, "a"], (None,))
            self.check_script(InvalidName, {"value": value}, (value, "a"), ())
        for value in (None, True, 3, "", "ab"):
            self.check_script(InvalidName, {"value": value}, value, (None,))

    def test_duplicates_and_more_than_three(self):
        self.check_script(DuplicateName, {"name": "b"}, ["a", "b", "b", "a", "c"], (None,))
        self.check_script(TooMany, {"subject": "names", "most": 3}, ["a", "b", "c", "d"], (None,))
        self.assertEqual(Script(["c", "b", "a"]).names(), ["a", "b", "c"])
        self.assertEqual(Script([]).names(), [])


class TestForms(Base):
    def test_no_step_at_any_place(self):
        for value in WRONG_STEPS:
            self.check_script(InvalidStep, {"path": (0,)}, ["a"], (value,))
            self.check_script(InvalidStep, {"path": (1,)}, ["a"], (KEEP, value, None))
            self.check_script(InvalidStep, {"path": (0, 1)}, ["a"], (repeat(2, KEEP, value), None))
            self.check_script(InvalidStep, {"path": (1, 0)}, ["a"], (CUT, both(WHOLE, (value, None), (None,))))
            self.check_script(InvalidStep, {"path": (1, 2)}, ["a"], (CUT, both(WHOLE, (KEEP, KEEP), (value,)), None))
            step = repeat(1, both(WHOLE, (CUT,), (repeat(1, value),)))
            self.check_script(InvalidStep, {"path": (0, 0, 1, 0)}, ["a"], (step,))

    def test_the_first_part_of_an_if_is_counted_ahead_of_the_second(self):
        for many in range(4):
            step = both(WHOLE, (KEEP,) * many, (KEEP, "cut"))
            self.check_script(InvalidStep, {"path": (0, many + 1)}, [], (step,))

    def test_each_step_ahead_of_those_in_it(self):
        wrong = ("repeat", 5, (None,))
        self.check_script(InvalidStep, {"path": (0,)}, [], (wrong, None))
        self.check_script(InvalidStep, {"path": (0, 0)}, [], (repeat(1, wrong),))
        self.check_script(InvalidStep, {"path": (0, 1)}, [], (both(WHOLE, (repeat(1), ("if", (), (None,), ()))), None))
        self.check_script(InvalidStep, {"path": (0, 0, 0)}, [], (repeat(1, repeat(1, None), None), None))

    def test_all_right_steps_are_of_the_form(self):
        for step in RIGHT_SINGLES + RIGHT_COMPOUNDS:
            self.check_script(InvalidStep, {"path": (1,)}, [], (step, None))
        for test in RIGHT_TESTS:
            self.check_script(InvalidStep, {"path": (1,)}, [], (both(test, ()), None))
        for test in WRONG_TESTS:
            self.check_script(InvalidStep, {"path": (0,)}, [], (both(test, ()), None))

    def test_four_deep_and_five_deep(self):
        for step in (CUT, both(WHOLE, ()), repeat(2), ("truncate", ())):
            self.assertEqual(Script([], (deep(4, step),)).plain(), (deep(4, step),))
            self.check_script(InvalidStep, {"path": (0,) * 5}, [], (deep(5, step),))
            self.check_script(InvalidStep, {"path": (0,) * 5}, [], (deep(7, step),))
        self.check_script(InvalidStep, {"path": (0, 0, 0, 0, 0)}, [], (deep(5, None), None))
        inner = both(WHOLE, (), (both(WHOLE, (), (both(WHOLE, (), (both(WHOLE, (CUT,), (CUT,)),)),)),))
        self.check_script(InvalidStep, {"path": (1, 0, 0, 0, 0)}, [], (CUT, inner))
        self.check_script(InvalidStep, {"path": (0, 0, 0, 1)}, [], (deep(3, ("repeat", 1, (CUT, None, repeat(1, CUT)))),))

    def test_deeper_steps_count_in_the_order_of_the_others(self):
        self.check_script(InvalidStep, {"path": (0, 0, 0, 0, 0)}, [], (deep(5, CUT), "cut"))
        self.check_script(InvalidStep, {"path": (0,)}, [], ("cut", deep(5, CUT)))

    def test_a_value_that_is_no_tuple_of_steps(self):
        for value in (None, True, 0, "", "cut", [], [CUT]):
            self.check_script(InvalidStep, {"path": ()}, [], value)

    def test_no_steps(self):
        for script in (Script([]), Script([], ()), Script([], (), pieces=None), Script([], (), pieces={})):
            self.assertEqual((script.steps(), script.plain(), script.names(), script.ends()), ((), (), [], []))

    def test_ahead_of_the_pieces(self):
        self.check_script(InvalidStep, {"path": (1,)}, [], (("use", "x"), None))


class TestPieces(Base):
    def test_a_piece_that_is_not_given(self):
        self.check_script(UnknownPiece, {"piece": "x"}, [], (("use", "x"), ("use", "y")))
        self.check_script(UnknownPiece, {"piece": "x"}, [], (("use", "x"),), {"y": ()})
        self.check_script(UnknownPiece, {"piece": "y"}, [], (("use", "x"), ("use", "y")), {"x": (CUT,)})
        self.check_script(UnknownPiece, {"piece": "z"}, [], (("use", "x"), ("use", "y")), {"x": (repeat(1, ("use", "z")),)})
        self.check_script(UnknownPiece, {"piece": "z"}, [], (both(WHOLE, (), (("use", "z"),)), ("use", "y")), {})

    def test_a_piece_within_itself(self):
        self.check_script(Circular, {"piece": "x"}, [], (("use", "x"),), {"x": (("use", "x"),)})
        ring = {"x": (CUT, ("use", "y")), "y": (repeat(1, ("use", "z")),), "z": (both(WHOLE, (), (("use", "x"),)),)}
        for piece in ring:
            self.check_script(Circular, {"piece": piece}, [], (("use", piece),), ring)
        ring["w"] = (("use", "y"),)
        self.check_script(Circular, {"piece": "y"}, [], (("use", "w"),), ring)

    def test_the_first_error_of_the_walk(self):
        pieces = {"x": (("use", "y"), ("use", "none")), "y": (("use", "x"),), "z": (("use", "none"), ("use", "z"))}
        self.check_script(Circular, {"piece": "x"}, [], (("use", "x"),), pieces)
        self.check_script(UnknownPiece, {"piece": "none"}, [], (("use", "z"),), pieces)
        self.check_script(UnknownPiece, {"piece": "none"}, [], (("use", "z"), ("use", "x")), pieces)
        self.check_script(Circular, {"piece": "y"}, [], (repeat(1, ("use", "y")), ("use", "z")), pieces)
        self.check_script(UnknownPiece, {"piece": "v"}, [], (both(WHOLE, (("use", "v"),), (("use", "x"),)),), pieces)
        self.check_script(Circular, {"piece": "x"}, [], (both(WHOLE, (("use", "x"),), (("use", "v"),)),), pieces)

    def test_a_piece_may_be_used_again_and_by_several(self):
        pieces = {"x": (CUT,), "y": (("use", "x"), ("use", "x")), "z": (("use", "y"), ("use", "x")[:2])}
        script = Script([], (("use", "y"), DUAL, ("use", "x")), pieces=pieces)
        self.assertEqual(script.plain(), (CUT, CUT, DUAL, CUT))
        self.assertEqual(Script([], (("use", "z"),), pieces=pieces).plain(), (CUT, CUT, CUT))

    def test_pieces_that_are_not_used_mean_nothing(self):
        pieces = {"x": (("use", "x"),), "y": (("use", "none"),), "z": (DUAL,) * 25, "w": ()}
        self.assertEqual(Script([], (("use", "w"),), pieces=pieces).plain(), ())

    def test_the_piece_at_the_place_of_its_use(self):
        pieces = {"x": (CUT, DUAL), "y": ()}
        inner = both(("rank", (), 0), (("use", "y"), KEEP, ("use", "y")), (("use", "y"),))
        script = Script([], (("use", "y"), repeat(1, ("use", "x"), CUT), inner, ("use", "x")), pieces=pieces)
        self.assertEqual(script.plain(), (repeat(1, CUT, DUAL, CUT), both(("rank", (), 0), (KEEP,)), CUT, DUAL))

    def test_ahead_of_depths_and_numbers(self):
        many = (KEEP,) * 25 + (both(WHOLE, (DUAL,)), ("delete", "z"))
        self.check_script(UnknownPiece, {"piece": "x"}, [], many + (("use", "x"),))
        self.check_script(Circular, {"piece": "x"}, [], many + (("use", "x"),), {"x": (deep(4, ("use", "x")),)})


class TestDepth(Base):
    def test_four_and_five_deep_by_a_piece(self):
        for many in range(1, 5):
            pieces = {"x": (KEEP, deep(5 - many, KEEP)), "y": (deep(6 - many, CUT),)}
            self.assertEqual(len(Script([], (deep(many, ("use", "x")),), pieces=pieces)), 1)
            if many > 1:
                self.check_script(TooDeep, {"most": 4}, [], (deep(many, ("use", "y")),), pieces)
        pieces = {"x": (repeat(1, ("use", "y")),), "y": (repeat(1, ("use", "z")),), "z": (both(WHOLE, (), (KEEP,)),)}
        self.assertEqual(len(Script([], (("use", "x"),), pieces=pieces)), 1)
        self.check_script(TooDeep, {"most": 4}, [], (repeat(1, ("use", "x")),), pieces)
        self.check_script(TooDeep, {"most": 4}, [], (both(WHOLE, (), (("use", "x"),)),), pieces)

    def test_a_use_is_no_step_of_the_plain_script(self):
        pieces = {"x": (deep(4, ("use", "y")),), "y": (), "z": (deep(2, ("use", "y")),)}
        self.assertEqual(Script([], (("use", "x"),), pieces=pieces).plain(), (deep(3, ("repeat", 1, ())),))
        self.assertEqual(len(Script([], (deep(4, ("use", "y")),), pieces=pieces)), 1)
        self.assertEqual(len(Script([], (deep(4, ("use", "z")),), pieces={"z": (("use", "y"),), "y": ()})), 1)
        self.assertEqual(len(Script([], (deep(4, ("use", "z")),), pieces=pieces)), 1)

    def test_pieces_deeper_than_they_may_be(self):
        self.check_script(TooDeep, {"most": 4}, [], (("use", "x"),), {"x": (deep(5, KEEP),)})

    def test_ahead_of_numbers_and_turns(self):
        pieces = {"x": (deep(4, DUAL),)}
        many = (KEEP,) * 25 + (both(WHOLE, (DUAL,)), repeat(1, ("use", "x")))
        self.check_script(TooDeep, {"most": 4}, [], many, pieces)


class TestSteps(Base):
    def check_bound(self, steps, pieces=None):
        """So many steps are a script, and with one step more they are none."""
        self.assertEqual(len(Script([], steps, pieces=pieces)), len(steps))
        self.check_script(TooMany, {"subject": "steps", "most": 24}, [], steps + (KEEP,), pieces)

    def test_twenty_four_and_twenty_five(self):
        self.assertEqual(Script.MOST, 24)
        self.check_bound((KEEP,) * 24)
        self.check_bound((repeat(4, KEEP, KEEP, KEEP, KEEP, KEEP),) + (KEEP,) * 3)
        self.check_bound((repeat(3, repeat(3, KEEP, repeat(1))),) + (KEEP,) * 2)
        self.check_bound((both(("rank", (), 1), (KEEP,) * 11, (KEEP,) * 12),))
        self.check_bound((repeat(2, both(("rank", (), 1), (KEEP,) * 5, (KEEP,) * 5)),) + (KEEP,))
        self.check_bound((repeat(4),) * 24)
        self.check_bound((both(("rank", (), 1), ()),) * 24)
        self.check_bound((repeat(4, repeat(4, repeat(1))), repeat(2)) + (KEEP,) * 2)

    def test_uses_count_as_the_steps_of_their_pieces(self):
        pieces = {"x": (KEEP,) * 6, "y": (), "z": (("use", "x"), ("use", "x"))}
        self.check_bound((("use", "z"), ("use", "x"), ("use", "x")) + (("use", "y"),) * 9, pieces)
        self.check_bound((repeat(3, ("use", "x"), KEEP), ("use", "y")) + (KEEP,) * 2, pieces)

    def test_pieces_that_nobody_could_write_out(self):
        words = ["x" + letter for letter in "abcdefghijklmnopqrst"]
        pieces = {word: (("use", after), ("use", after)) * 20 for word, after in zip(words, words[1:])}
        pieces[words[-1]] = (KEEP,)
        self.check_script(TooMany, {"subject": "steps", "most": 24}, [], (("use", "xa"),), pieces)
        pieces[words[-1]] = ()
        self.assertEqual(Script([], (("use", "xa"),), pieces=pieces).plain(), ())
        pieces[words[-1]] = (("use", "xa"),)
        self.check_script(Circular, {"piece": "xa"}, [], (("use", "xa"),), pieces)
        pieces[words[-1]] = (("use", "none"),)
        self.check_script(UnknownPiece, {"piece": "none"}, [], (("use", "xa"),), pieces)

    def test_ahead_of_looks_turns_and_names(self):
        many = (both(WHOLE, (DUAL, CUT)), ("delete", "z")) + (CUT,) * 22
        self.check_script(TooMany, {"subject": "steps", "most": 24}, [], many)


class TestLooks(Base):
    def check_bound(self, steps, pieces=None):
        """So many looks are a script, and with one look more there are too many."""
        self.assertEqual(len(Script([], steps, pieces=pieces)), len(steps))
        for look in (CUT, ("top", "zz"), both(WHOLE, ())):
            self.check_script(TooMany, {"subject": "looks", "most": 3}, [], steps + (look,), pieces)
            self.check_script(TooMany, {"subject": "looks", "most": 3}, [], (repeat(1, look),) + steps, pieces)

    def test_three_and_four(self):
        self.assertEqual(Script.LOOKS, 3)
        self.check_bound((CUT,) * 3)
        self.check_bound((("top", "p"), ("top", "q"), ("top", "r")))
        self.check_bound((both(WHOLE, ()), both(WHOLE, (KEEP,)), CUT))
        self.check_bound((repeat(3, CUT),))
        self.check_bound((repeat(3, both(WHOLE, ())),))
        self.check_bound((both(WHOLE, (CUT,), (CUT,)),))
        self.check_bound((both(("rank", (), 1), (CUT, CUT), (CUT,)),))
        self.check_bound((repeat(2, CUT, DUAL), CUT))
        self.check_bound((repeat(1, repeat(3, CUT)),))
        self.check_bound((("use", "x"), repeat(2, ("use", "x"))), {"x": (CUT,)})
        self.check_script(TooMany, {"subject": "looks", "most": 3}, [], (repeat(4, CUT),))
        self.check_script(TooMany, {"subject": "looks", "most": 3}, [], (repeat(2, repeat(2, CUT)),))

    def test_other_steps_and_tests_are_no_looks(self):
        others = (("extend", "p", ()), ("truncate", ("p",)), ("unite", ((),)), ("rename", "p", "q"), DUAL)
        tests = (both(("rank", ("q",), 1), ()), both(("spans", (), "q"), ()), ("contract", "q"), ("extend", "p", ()))
        self.assertEqual(Script([], others + tests + (("delete", "p"), CUT, CUT, CUT)).cuts, (0, 3))

    def test_ahead_of_turns_and_names(self):
        steps = (both(WHOLE, (DUAL,)), ("delete", "z"), repeat(3, CUT))
        self.check_script(TooMany, {"subject": "looks", "most": 3}, [], steps)


class TestTurns(Base):
    def test_a_dual_within_an_if(self):
        self.check_script(InvalidTurn, {"path": (0, 0)}, [], (both(WHOLE, (DUAL,)),))
        self.check_script(InvalidTurn, {"path": (1, 2)}, [], (DUAL, both(WHOLE, (KEEP,), (CUT, DUAL)), both(WHOLE, (DUAL,))))
        self.check_script(InvalidTurn, {"path": (0, 1, 0)}, [], (both(WHOLE, (CUT,), (repeat(2, DUAL),)),))
        self.check_script(InvalidTurn, {"path": (0, 0, 1, 0)}, [], (repeat(1, both(WHOLE, (KEEP, repeat(1, DUAL)))),))
        self.check_script(InvalidTurn, {"path": (0, 0, 0)}, [], (both(WHOLE, (both(WHOLE, (DUAL,)), DUAL)),))
        self.check_script(InvalidTurn, {"path": (0, 0, 0, 0)}, [], (both(WHOLE, (repeat(1, repeat(1, DUAL)), DUAL)),))

    def test_in_repeats_a_dual_may_stand(self):
        self.assertEqual(Script([], (deep(4, DUAL), repeat(3, DUAL), both(WHOLE, ()), DUAL)).turned, True)

    def test_the_path_is_that_of_the_plain_script(self):
        pieces = {"x": (CUT, both(("rank", (), 0), (), (("use", "y"),))), "y": (KEEP, DUAL)}
        self.check_script(InvalidTurn, {"path": (3, 1)}, [], (("use", "y"), ("use", "x")), pieces)

    def test_ahead_of_names(self):
        self.check_script(InvalidTurn, {"path": (1, 0)}, [], (("delete", "z"), both(WHOLE, (DUAL,))))
        self.check_script(UnknownName, {"name": "z"}, [], (("delete", "z"), both(WHOLE, (CUT,))))


if __name__ == "__main__":
    unittest.main()
