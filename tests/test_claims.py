import inspect
import random
import unittest

from brute import ODD_VALUES
from framing import all_frames
from pairing import drawn_facts, first_set, frames_that_matter, is_kept, made, most_cuts, paired, ranks_left
from scripting import CUT, DUAL, WHOLE, Base, both, repeat
from stepping import RIGHT_TESTS, WRONG_TESTS, fitting_group, fitting_test
from test_facts import RIGHT, WRONG
from test_running import drawn_script, holds, tried
from unseenrest import claims as module
from unseenrest.claims import exchangeable, needless, rank_range, refuted, surely
from unseenrest.errors import InvalidFact, InvalidStep, NoStructure, UnknownName
from unseenrest.running import holds_in, run
from unseenrest.scripts import Script

NAMES = [[], ["a"], ["a"], ["a", "b"]]
IMPOSSIBLE = [("least", ("a",), 2)]
NO_LISTS = [value for value in ODD_VALUES if not isinstance(value, (list, tuple))]


def first_failing(script, test, facts):
    """The first frame, by point 13, of a structure behind which a test fails."""
    for frame in frames_that_matter(facts, script, more=1 if test == WHOLE else 0):
        if not holds_in(run(script, frame.built()), test):
            return frame
    return None


class TestRefuted(Base):
    def test_against_all_frames_in_their_order(self):
        drawn = random.Random(21)
        failing = {"rank": 0, "spans": 0, "whole": 0}
        for _ in range(200):
            names = drawn.choice(NAMES)
            script = drawn_script(drawn, names)
            test = fitting_test(drawn, script.ends())
            facts = drawn_facts(drawn, names)
            expected = first_failing(script, test, facts)
            found = refuted(script, test, facts=facts)
            self.assertEqual(found, expected)
            self.assertEqual(type(found), type(expected))
            self.assertIs(surely(script, test, facts=facts), expected is None)
            failing[test[0]] += expected is not None
        self.assertGreater(min(failing.values()), 15)

    def test_on_structures_set_by_set(self):
        drawn = random.Random(22)
        for _ in range(80):
            names = drawn.choice(NAMES)
            script = drawn_script(drawn, names)
            test = fitting_test(drawn, script.ends())
            facts = drawn_facts(drawn, names)
            found = refuted(script, test, facts=facts)
            if found is not None:
                structure = found.built()
                self.assertTrue(all(is_kept(structure, fact) for fact in facts))
                self.assertFalse(holds(ranks_left(script, structure), test))
            for structure in drawn.sample(tried(drawn), 30):
                if structure.names() == names and all(is_kept(structure, fact) for fact in facts):
                    if found is None or structure.unseen < found.unseen:
                        self.assertTrue(holds(ranks_left(script, structure), test))

    def test_the_cuts_are_one_greater_for_whole(self):
        for many in range(4):
            steps = (repeat(many, CUT),) if many else ()
            found = refuted(Script([], steps), WHOLE)
            self.assertEqual((found.gaps, found.spares, found.unseen), ((many + 1, 0), (0, 0), many + 1))
            self.assertIs(surely(Script([], steps), WHOLE), False)
            turned = Script([], (DUAL,) + steps)
            found = refuted(turned, WHOLE)
            self.assertEqual((found.gaps, found.spares, found.unseen), ((0, 0), (0, many + 1), many + 1))
        # For other tests the cuts are as they are.
        self.assertIs(surely(Script(["a"]), ("rank", ("a",), 0)), True)
        self.assertEqual(most_cuts(Script(["a"])), [0, 0])

    def test_whole_that_holds(self):
        script = Script([], (repeat(3, ("top", "p"), ("delete", "p")),))
        self.assertIs(surely(script, WHOLE), False)
        script = Script(["a"], (both(WHOLE, (), (("delete", "a"), ("top", "a"))),))
        self.assertEqual(refuted(script, WHOLE).gaps[0], 2)

    def test_tests_that_hold(self):
        top = Script(["a"], (("top", "p"), ("truncate", ("a", "p"))))
        self.assertIsNone(refuted(top, ("rank", (), 0)))
        self.assertIs(surely(top, ("spans", ("a",), "a")), True)
        found = refuted(top, ("rank", ("a",), 1))
        self.assertEqual((found.first.rank("a"), found.unseen), (0, 0))
        self.assertIs(surely(Script(["a"], (("extend", "p", ("a",)),)), ("spans", ("a",), "p")), True)
        self.assertIs(surely(Script(["a"], (("extend", "p", ("a",)),)), ("spans", ("p",), "a")), True)
        self.assertIs(surely(Script(["a", "b"], (("extend", "p", ("a", "b")),)), ("spans", ("p",), "a")), False)

    def test_facts(self):
        script = Script(["a"])
        self.assertIs(surely(script, ("rank", ("a",), 1)), False)
        self.assertIs(surely(script, ("rank", ("a",), 1), facts=[("least", ("a",), 1)]), True)
        self.assertIs(surely(script, ("rank", ("a",), 1), facts=(("most", ("a",), 1),)), False)
        for facts in (IMPOSSIBLE, [("least", ("a",), 1), ("most", ("a",), 0)]):
            for test in (("rank", ("a",), 6), WHOLE):
                self.assertIsNone(refuted(script, test, facts=facts))
                self.assertIs(surely(script, test, facts=facts), True)

    def test_three_names(self):
        names = ["a", "b", "c"]
        script = Script(names, (CUT, ("delete", "a")))
        for test in (("rank", ("b", "c"), 1), ("spans", ("b",), "c"), WHOLE):
            self.assertEqual(refuted(script, test), first_failing(script, test, []))
        facts = [("least", ("a", "b", "c"), 3)]
        self.assertEqual(refuted(script, ("rank", ("b", "c"), 2), facts=facts), None)

    def test_a_value_that_is_no_test(self):
        script = Script(["a"], (("extend", "p", ("a",)),))
        for call in (refuted, surely):
            for value in WRONG_TESTS:
                for facts in ([], [None], None):
                    self.check_raises(InvalidStep, {"path": ()}, call, script, value, facts=facts)

    def test_unknown_names(self):
        script = Script(["a", "c"], (("rename", "a", "b"),))
        for call in (refuted, surely):
            for facts in ([], [None], None):
                for test, name in (
                    (("rank", ("a",), 0), "a"), (("rank", ("a", "b", "d"), 0), "a"), (("rank", ("b", "d", "e"), 6), "d"),
                    (("spans", ("b",), "a"), "a"), (("spans", ("b", "d"), "a"), "d"), (("spans", (), "x"), "x"),
                ):
                    self.check_raises(UnknownName, {"name": name}, call, script, test, facts=facts)
            for test in RIGHT_TESTS:
                if test[0] == "whole" or test[1] == ():
                    call(Script(["a"]), test)

    def test_invalid_facts(self):
        script = Script(["a", "b"], (("extend", "p", ()),))
        for call in (refuted, surely):
            for test in (WHOLE, ("rank", ("p",), 0), ("spans", ("a",), "b")):
                for value in WRONG + [("least", ("p",), 0)]:
                    self.check_raises(InvalidFact, {"at": 0}, call, script, test, facts=[value, None])
                    self.check_raises(InvalidFact, {"at": 1}, call, script, test, facts=(IMPOSSIBLE[0], value))
                for value in NO_LISTS:
                    self.check_raises(InvalidFact, {"at": 0}, call, script, test, facts=value)
                call(script, test, facts=RIGHT)


class TestRankRange(Base):
    def test_against_all_frames_up_to_the_cuts(self):
        drawn = random.Random(23)
        wide = 0
        for _ in range(200):
            names = drawn.choice(NAMES)
            script = drawn_script(drawn, names)
            group = fitting_group(drawn, script.ends())
            facts = drawn_facts(drawn, names)
            ranks = [run(script, frame.built()).rank(*group) for frame in frames_that_matter(facts, script)]
            if not ranks:
                self.check_raises(NoStructure, {}, rank_range, script, *group, facts=facts)
                continue
            found = rank_range(script, *group, facts=facts)
            self.assertEqual((type(found), found), (tuple, (min(ranks), max(ranks))))
            wide += min(ranks) < max(ranks)
            for structure in drawn.sample(tried(drawn), 10):
                if structure.names() == names and all(is_kept(structure, fact) for fact in facts):
                    rank = ranks_left(script, structure)[frozenset(group)]
                    self.assertTrue(found[0] <= rank <= found[1])
        self.assertGreater(wide, 40)

    def test_beyond_the_cuts(self):
        drawn = random.Random(24)
        for _ in range(40):
            script = drawn_script(drawn, ["a"])
            group = fitting_group(drawn, script.ends())
            ranks = [run(script, frame.built()).rank(*group) for frame in frames_that_matter([], script, more=1)]
            self.assertEqual(rank_range(script, *group), (min(ranks), max(ranks)))

    def test_names_in_any_order_and_more_than_once(self):
        script = Script(["a", "b"], (("extend", "p", ("a",)),))
        self.assertEqual(rank_range(script, "p", "b", "p", "a"), (0, 2))
        self.assertEqual(rank_range(script), (0, 0))
        self.assertEqual(rank_range(script, "p", "a", facts=[("least", ("a",), 1)]), (1, 1))
        self.assertEqual(rank_range(Script([], (repeat(3, ("top", "p"), ("rename", "p", "q"), ("delete", "q")),))), (0, 0))

    def test_looks(self):
        tops = Script([], (("top", "p"), ("top", "q"), ("top", "r")))
        self.assertEqual(rank_range(tops, "p", "q", "r"), (0, 3))
        turned = Script([], (DUAL,) + tops.steps() + (DUAL,))
        self.assertEqual(rank_range(turned, "p", "q", "r"), (3, 3))
        self.assertEqual(rank_range(Script([], turned.steps()[:-1]), "p", "q", "r"), (0, 3))
        script = Script(["a", "b", "c"], (("top", "p"), ("top", "q")))
        self.assertEqual(rank_range(script, "a", "p", "q"), (0, 3))
        self.assertEqual(rank_range(script, "p", "q", facts=[("least", ("a", "b", "c"), 2)]), (2, 2))
        self.assertEqual(rank_range(script, "p", "q", facts=[("least", ("c",), 1)]), (1, 2))

    def test_unknown_names(self):
        script = Script(["a", "c"], (("rename", "a", "b"),))
        for value in ODD_VALUES + ["d"]:
            for facts in ([], [None], None, [("least", ("c",), 2)]):
                self.check_raises(UnknownName, {"name": value}, rank_range, script, "b", value, None, facts=facts)

    def test_invalid_facts(self):
        script = Script(["a", "b"], (("extend", "p", ()),))
        for value in WRONG + [("least", ("p",), 0)]:
            self.check_raises(InvalidFact, {"at": 0}, rank_range, script, "p", facts=[value, None])
            self.check_raises(InvalidFact, {"at": 1}, rank_range, script, "p", facts=[IMPOSSIBLE[0], value])
        for value in NO_LISTS:
            self.check_raises(InvalidFact, {"at": 0}, rank_range, script, facts=value)

    def test_no_structure(self):
        for facts in (IMPOSSIBLE, [("least", ("a",), 1), ("most", ("a",), 0)], (("least", (), 1),)):
            self.check_raises(NoStructure, {}, rank_range, Script(["a"], (CUT,)), "a", facts=facts)
            self.check_raises(NoStructure, {}, rank_range, Script(["a"], (CUT,)), facts=facts)


def alike_by_frames(one, other, facts):
    frames = frames_that_matter(facts, one, other)
    return paired(one, other) and first_set(one, other, frames, lambda first, second: first != second) is None


def steps_without(script, at):
    steps = script.steps()
    return steps[:at] + steps[at + 1:]


def steps_swapped(script, at):
    steps = script.steps()
    return steps[:at] + (steps[at + 1], steps[at]) + steps[at + 2:]


class TestSteps(Base):
    def check_steps(self, script, facts):
        names, many = script.names(), len(script)
        for call, steps, count in ((needless, steps_without, many), (exchangeable, steps_swapped, max(many - 1, 0))):
            others = [made(names, steps(script, at)) for at in range(count)]
            expected = [at for at, other in enumerate(others) if other and alike_by_frames(script, other, facts)]
            self.assertEqual(call(script, facts=facts), expected)
        return needless(script, facts=facts), exchangeable(script, facts=facts)

    def test_drawn_scripts(self):
        drawn = random.Random(25)
        found = []
        while len(found) < 120:
            names = drawn.choice(NAMES)
            script = drawn_script(drawn, names)
            if len(script) > 1:
                found.append(self.check_steps(script, drawn_facts(drawn, names)))
        for kind in (0, 1):
            self.assertGreater(sum(len(pair[kind]) > 0 for pair in found), 15)
            self.assertGreater(sum(len(pair[kind]) == 0 for pair in found), 15)

    def test_needless_steps(self):
        for names, steps, expected in (
            (["a"], (), []), (["a"], (CUT,), []), (["a"], (("rename", "a", "a"), CUT), [0]), ([], (repeat(1), repeat(4)), [0, 1]),
            (["a"], (("truncate", ()), DUAL, ("unite", (("a",),))), [0]), (["a"], (DUAL, DUAL), []), ([], (repeat(2, DUAL),), [0]),
            (["a"], (("extend", "p", ()), ("delete", "p")), []), ([], (repeat(3, DUAL),), []), (["a"], (("delete", "a"),), []),
            (["a", "b"], (("truncate", ("a", "b")), both(("rank", ("a",), 1), (), ()), ("contract", "b")), [1]),
            (["a"], (both(WHOLE, (), ()), ("top", "p"), ("truncate", ()), ("delete", "p")), [0, 2]),
            (["a"], (("unite", (("a",),)), ("unite", (("a",),))), [0, 1]), (["a"], (CUT, CUT, CUT), []),
        ):
            self.assertEqual(needless(Script(names, steps)), expected, steps)

    def test_exchangeable_steps(self):
        for names, steps, expected in (
            ([], (), []), ([], (CUT,), []), ([], (CUT, CUT, CUT), [0, 1]), ([], (CUT, DUAL), []),
            (["a", "b"], (("delete", "a"), ("contract", "b")), [0]), (["a", "b"], (("delete", "a"), CUT), []),
            (["a", "b"], (("contract", "a"), ("truncate", ("b",))), [0]), (["a"], (("extend", "p", ()), ("delete", "p")), []),
            (["a"], (("extend", "p", ("a",)), ("extend", "q", ("a",)), ("delete", "a")), [0]),
            (["a"], (("extend", "p", ("a",)), ("extend", "q", ("p",))), []), (["a"], (("rename", "a", "b"), ("rename", "b", "a")), []),
        ):
            self.assertEqual(exchangeable(Script(names, steps)), expected, steps)

    def test_scripts_that_raise_errors_are_left_out(self):
        steps = (("extend", "p", ()), ("extend", "q", ("p",)), ("delete", "p"))
        self.assertEqual(needless(Script(["a"], steps)), [])
        self.assertEqual(exchangeable(Script(["a"], steps)), [])
        # A script of another turn, and one of other ends.
        self.assertEqual(needless(Script(["a"], (DUAL, ("delete", "a")))), [])

    def test_the_steps_as_they_were_passed(self):
        pieces = {"none": (), "two": (DUAL, DUAL), "top": (("top", "p"), ("delete", "p"))}
        script = Script(["a"], (("use", "none"), ("use", "top"), ("use", "two"), CUT), pieces=pieces)
        self.assertEqual(needless(script), [0, 1, 2])
        self.assertEqual(exchangeable(script), [0, 1, 2])

    def test_facts(self):
        script = Script(["a", "b"], (("truncate", ("a",)), ("delete", "b")))
        self.assertEqual((needless(script), exchangeable(script)), ([], [0]))
        facts = [("most", ("a",), 0)]
        self.assertEqual((needless(script, facts=facts), needless(script, facts=tuple(facts))), ([0], [0]))
        swapped = Script(["a", "b"], (("delete", "a"), ("truncate", ("b",))))
        self.assertEqual(exchangeable(Script(["a", "b"], (("delete", "a"), CUT))), [])
        self.assertEqual(exchangeable(Script(["a", "b"], (("delete", "a"), CUT)), facts=facts), [0])
        self.assertEqual(exchangeable(swapped), [0])
        for kept in (IMPOSSIBLE, [("least", (), 6)]):
            script = Script(["a"], (CUT, ("truncate", ("a",)), CUT, DUAL))
            self.assertEqual(needless(script, facts=kept), [0, 1, 2])
            self.assertEqual(exchangeable(script, facts=kept), [0, 1, 2])

    def test_three_names(self):
        names = ["a", "b", "c"]
        script = Script(names, (("extend", "p", ("a", "b")), ("truncate", ("b", "c")), ("rename", "c", "c"), CUT, ("delete", "p")))
        self.check_steps(script, [("least", ("a", "b", "c"), 2)])

    def test_invalid_facts(self):
        for script in (Script(["a", "b"]), Script(["a", "b"], (("extend", "p", ()), CUT))):
            for call in (needless, exchangeable):
                for value in WRONG + [("least", ("p",), 0)]:
                    self.check_raises(InvalidFact, {"at": 0}, call, script, facts=[value, None])
                    self.check_raises(InvalidFact, {"at": 1}, call, script, facts=(IMPOSSIBLE[0], value))
                for value in NO_LISTS:
                    self.check_raises(InvalidFact, {"at": 0}, call, script, facts=value)
                self.assertIsInstance(call(script, facts=RIGHT), list)

    def test_arguments_stay(self):
        facts = [("least", ("a",), 1)]
        script = Script(["a"], (CUT, CUT))
        for call in (needless, exchangeable, rank_range):
            call(script, facts=facts)
        refuted(script, WHOLE, facts=facts)
        self.assertEqual(facts, [("least", ("a",), 1)])


class TestParameters(Base):
    def test_parameters(self):
        script = Script(["a"], (CUT,))
        for call in (refuted, surely):
            self.assertEqual(str(inspect.signature(call)), "(script, test, *, facts=())")
        for call in (needless, exchangeable):
            self.assertEqual(str(inspect.signature(call)), "(script, *, facts=())")
        self.assertEqual(str(inspect.signature(rank_range)), "(script, *names, facts=())")
        for call in (refuted, surely, needless, exchangeable, rank_range):
            self.assertEqual(call.__module__, module.__name__)
        self.assertIs(surely(facts=[], test=("rank", (), 0), script=script), True)
        self.assertIsNone(refuted(facts=[], test=("rank", (), 0), script=script))
        self.assertEqual((needless(facts=[], script=script), exchangeable(facts=[], script=script)), ([], []))
        self.assertEqual(rank_range(facts=[], script=script), (0, 0))

    def test_the_frame_is_one_of_the_frames(self):
        found = refuted(Script(["a"]), ("rank", ("a",), 1))
        self.assertIn(found, all_frames(["a"], 0, 0))


if __name__ == "__main__":
    unittest.main()
