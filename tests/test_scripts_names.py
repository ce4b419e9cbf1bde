"""The names of a script on its way, and the ends of it."""

import unittest

from scripting import CUT, DUAL, WHOLE, Base, both, repeat
from unseenrest.errors import DuplicateName, TooMany, UnknownName, UnlikeEnds
from unseenrest.scripts import Script

SIX = {"subject": "names", "most": 6}


class TestUnknown(Base):
    def check_unknown(self, name, *steps):
        self.check_script(UnknownName, {"name": name}, ["a", "b"], steps)
        self.check_script(UnknownName, {"name": name}, ["a", "b"], (CUT, repeat(1, *steps), ("delete", "zz")))

    def test_each_step_and_test(self):
        self.check_unknown("c", ("delete", "c"))
        self.check_unknown("c", ("contract", "c"))
        self.check_unknown("c", ("extend", "p", ("a", "c", "d")))
        self.check_unknown("c", ("truncate", ("a", "c", "d")))
        self.check_unknown("c", ("unite", (("b",), ("c",), ("a",), ("aa",))))
        self.check_unknown("aa", ("unite", (("a", "aa"), ("b", "c"), ("a", "b"), ("aa", "b"), ("a", "c"), ("aa", "c"))))
        self.check_unknown("c", ("rename", "c", "a"))
        self.check_unknown("c", ("rename", "c", "d"))
        self.check_unknown("c", both(("rank", ("a", "c", "d"), 1), (("delete", "e"),)))
        self.check_unknown("c", both(("spans", ("a", "c"), "d"), ()))
        self.check_unknown("c", both(("spans", ("a", "b"), "c"), ()))
        self.check_unknown("d", both(("spans", ("a", "d"), "c"), ()))

    def test_in_the_order_in_which_they_are_done(self):
        self.check_unknown("c", ("delete", "c"), ("delete", "d"))
        self.check_unknown("a", ("delete", "a"), ("contract", "a"))
        self.check_unknown("a", ("rename", "a", "c"), ("truncate", ("a", "c")))
        self.check_unknown("c", both(("rank", (), 1), (("delete", "c"),), (("delete", "d"),)))
        self.check_unknown("d", both(("rank", (), 1), (("delete", "a"),), (("delete", "d"),)), ("delete", "c"))
        self.check_unknown("a", both(WHOLE, (("delete", "a"),), (("contract", "a"),)), ("delete", "a"))

    def test_each_part_of_an_if_begins_with_the_names_ahead_of_it(self):
        self.assertEqual(Script(["a"], (both(WHOLE, (("delete", "a"),), (("contract", "a"),)),)).ends(), [])
        self.check_unknown("p", both(WHOLE, (("extend", "p", ()),), (("delete", "p"),)))

    def test_repeats_are_written_out(self):
        self.check_script(UnknownName, {"name": "a"}, ["a", "b"], (repeat(2, ("delete", "a")), ("delete", "c")))
        self.assertEqual(Script(["a", "b"], (repeat(1, ("delete", "a")),)).ends(), ["b"])
        steps = (repeat(2, ("rename", "a", "c"), ("rename", "b", "a"), ("rename", "c", "b")),)
        self.assertEqual(Script(["a", "b"], steps).ends(), ["a", "b"])
        self.check_script(UnknownName, {"name": "a"}, ["a"], (repeat(3, ("rename", "a", "b"), repeat(1, CUT)),))
        self.check_script(DuplicateName, {"name": "c"}, ["a", "b"], (repeat(2, ("rename", "a", "c"), ("rename", "b", "a")),))

    def test_new_names_are_left_out(self):
        self.assertEqual(Script([], (("extend", "p", ()), ("top", "q"), ("rename", "p", "r"))).ends(), ["q", "r"])


class TestDuplicate(Base):
    def test_each_step_with_a_new_name(self):
        for step in (("extend", "b", ("a",)), ("top", "b"), ("rename", "a", "b")):
            self.check_script(DuplicateName, {"name": "b"}, ["a", "b"], (step,))
        self.check_script(UnknownName, {"name": "c"}, ["a"], (("extend", "a", ("c",)),))
        self.check_script(UnknownName, {"name": "p"}, ["a"], (("extend", "p", ("p",)),))

    def test_a_rename_to_the_same_name(self):
        self.assertEqual(Script(["a", "b"], (("rename", "a", "a"), repeat(3, ("rename", "b", "b")))).ends(), ["a", "b"])
        self.check_script(UnknownName, {"name": "c"}, ["a"], (("rename", "c", "c"),))

    def test_names_that_went_may_come_again(self):
        steps = (("delete", "a"), ("top", "a"), ("rename", "b", "c"), ("extend", "b", ("a", "c")))
        self.assertEqual(Script(["a", "b"], steps).ends(), ["a", "b", "c"])
        self.check_script(DuplicateName, {"name": "p"}, [], (repeat(2, ("top", "p")),))
        self.assertEqual(Script([], (repeat(3, ("top", "p"), ("delete", "p")),)).ends(), [])


class TestSixNames(Base):
    def test_six_and_seven(self):
        three = (("extend", "p", ()), ("top", "q"), ("extend", "r", ("a", "p")))
        self.assertEqual(Script(["c", "b", "a"], three).ends(), ["a", "b", "c", "p", "q", "r"])
        self.check_script(TooMany, SIX, ["c", "b", "a"], three + (("top", "s"),))
        self.check_script(TooMany, SIX, ["c", "b", "a"], three + (("extend", "s", ("a", "b")),))
        self.assertEqual(len(Script(["a", "b", "c"], three + (("rename", "p", "s"), ("rename", "q", "q"))).ends()), 6)
        self.assertEqual(len(Script(["a", "b", "c"], three + (("delete", "p"), ("top", "s"))).ends()), 6)

    def test_the_order_of_the_errors_of_a_step(self):
        three = (("extend", "p", ()), ("top", "q"), ("extend", "r", ()))
        self.check_script(DuplicateName, {"name": "a"}, ["a", "b", "c"], three + (("extend", "a", ("a",)),))
        self.check_script(UnknownName, {"name": "s"}, ["a", "b", "c"], three + (("extend", "a", ("s",)),))
        self.check_script(DuplicateName, {"name": "a"}, ["a", "b", "c"], three + (("top", "a"),))


class TestUnlikeEnds(Base):
    def test_the_path_of_the_if(self):
        unlike = both(("rank", (), 1), (("delete", "a"),))
        self.check_script(UnlikeEnds, {"path": (0,)}, ["a"], (unlike, ("delete", "z")))
        self.check_script(UnlikeEnds, {"path": (1, 0)}, ["a"], (CUT, repeat(2, unlike)))
        self.check_script(UnlikeEnds, {"path": (0, 1)}, ["a"], (both(WHOLE, (CUT, unlike)),))
        self.check_script(UnlikeEnds, {"path": (0, 2)}, ["a"], (both(WHOLE, (CUT, CUT), (unlike,)),))
        self.check_script(UnlikeEnds, {"path": (0, 0, 1)}, ["a"], (repeat(1, repeat(1, DUAL, unlike)),))

    def test_in_a_repeat(self):
        step = both(("rank", (), 1), (("rename", "a", "b"),), (("rename", "a", "b"),))
        self.check_script(UnknownName, {"name": "a"}, ["a"], (repeat(2, step),))
        same = repeat(2, ("delete", "a"), ("extend", "a", ()), both(("rank", (), 1), (("rename", "a", "a"),)))
        self.assertEqual(Script(["a"], (same,)).ends(), ["a"])

    def test_behind_the_errors_of_its_parts(self):
        step = both(("rank", (), 1), (("delete", "a"),), (("delete", "z"),))
        self.check_script(UnknownName, {"name": "z"}, ["a"], (step,))
        step = both(("rank", (), 1), (("delete", "a"), ("top", "b")), ())
        self.check_script(DuplicateName, {"name": "b"}, ["a", "b"], (step,))
        inner = both(("rank", (), 1), (("top", "p"),))
        self.check_script(UnlikeEnds, {"path": (0, 1)}, ["a"], (both(WHOLE, (("delete", "a"),), (inner,)),))

    def test_the_path_is_that_of_the_plain_script(self):
        pieces = {"x": (CUT, CUT, ("use", "y")), "y": (both(("rank", (), 1), (("delete", "a"),)),)}
        self.check_script(UnlikeEnds, {"path": (2,)}, ["a"], (("use", "x"),), pieces)
        self.check_script(UnlikeEnds, {"path": (1, 2)}, ["a"], (DUAL, repeat(1, ("use", "x"))), pieces)

    def test_other_ways_to_the_same_names(self):
        steps = (both(WHOLE, (("delete", "a"), ("top", "p")), (("rename", "a", "p"),)), ("rename", "p", "a"))
        self.assertEqual(Script(["a"], steps).ends(), ["a"])
        steps = (both(WHOLE, (("top", "p"), ("top", "q")), (("extend", "q", ()), ("extend", "p", ()))),)
        self.assertEqual(Script([], steps).ends(), ["p", "q"])


if __name__ == "__main__":
    unittest.main()
