import inspect
import random
import unittest

from brute import ODD_VALUES
from framing import all_frames
from pairing import drawn_facts, drawn_pair, first_set, frames_that_matter, groups_by_index, kept, marked_behind
from pairing import pairs_of_ranks, shown_behind
from scripting import CUT, DUAL, Base, repeat
from unseenrest import papers as module
from unseenrest.frames import Frame
from unseenrest.papers import Alike, Exceeds, Paper, Parted
from unseenrest.scripts import Script
from unseenrest.structures import Structure

TOP, EXTEND = Script.read(["a"], "top p ; delete a"), Script.read(["a"], "extend p a ; delete a")
LOST = Script.read(["a"], "extend p ; delete a")
ONE, NONE = Structure.free(["a"]), Structure.uniform(["a"], 0)
IMPOSSIBLE = [("least", ("a",), 2)]
NO_LISTS = [value for value in ODD_VALUES if not isinstance(value, (list, tuple))]


def right_rows(one, other, facts=(), more=0):
    """The rows of an Alike, made on the structures to which the frames are built."""
    return [(frame, shown_behind(one, frame)) for frame in frames_that_matter(facts, one, other, more=more)]


def alike_pairs(drawn, many):
    """Drawn pairs of scripts, with facts, that leave the same on the structures to which the frames are built."""
    found = []
    while len(found) < many:
        names = drawn.choice([[], ["a"], ["a"], ["a", "b"]])
        one, other = drawn_pair(drawn, names)
        facts = drawn_facts(drawn, names)
        frames = frames_that_matter(facts, one, other)
        if first_set(one, other, frames, lambda first, second: first != second) is None:
            found.append((one, other, facts))
    return found


class TestPaper(Base):
    def test_what_is_told(self):
        paper = Paper(TOP, EXTEND)
        self.assertIs(paper.one, TOP)
        self.assertIs(paper.other, EXTEND)
        self.assertEqual((paper.told(), Paper.KIND, paper.KIND, repr(paper)), ("open", "open", "open", "Paper(open)"))
        self.assertIs(paper.holds(), False)
        self.assertIs(bool(paper), False)
        self.assertIs(Paper(TOP, TOP).holds(), False)

    def test_properties_cannot_be_assigned(self):
        for paper in (Paper(TOP, TOP), Alike(TOP, TOP, []), Parted(TOP, TOP, None, ()), Exceeds(TOP, TOP, None, ())):
            for name in ("one", "other"):
                with self.assertRaises(AttributeError):
                    setattr(paper, name, TOP)
        for paper in (Parted(TOP, TOP, None, ()), Exceeds(TOP, TOP, None, ())):
            for name in ("frame", "group"):
                with self.assertRaises(AttributeError):
                    setattr(paper, name, ())

    def test_the_classes(self):
        self.assertEqual((Alike.__bases__, Parted.__bases__, Exceeds.__bases__), ((Paper,), (Paper,), (Parted,)))
        self.assertEqual((Alike.KIND, Parted.KIND, Exceeds.KIND), ("alike", "parted", "exceeds"))
        for kind, names in (
            (Paper, "__init__ KIND one other told holds __bool__ __repr__"),
            (Alike, "__init__ KIND rows facts told __bool__ holds"),
            (Parted, "__init__ KIND frame group ranks told holds"), (Exceeds, "__init__ KIND told holds"),
        ):
            for name in names.split():
                self.assertIn(name, vars(kind), kind)

    def test_parameters(self):
        self.assertEqual(str(inspect.signature(Paper)), "(one, other)")
        self.assertEqual(str(inspect.signature(Alike)), "(one, other, rows, *, facts=())")
        self.assertEqual(str(inspect.signature(Parted)), "(one, other, frame, group)")
        self.assertEqual(str(inspect.signature(Exceeds)), "(one, other, frame, group)")
        self.assertEqual(Paper(other=TOP, one=EXTEND).one, EXTEND)
        paper = Alike(facts=[1], rows=[2], other=TOP, one=EXTEND)
        self.assertEqual((paper.one, paper.other, paper.rows(), paper.facts()), (EXTEND, TOP, [2], [1]))
        for kind in (Parted, Exceeds):
            paper = kind(group=("a",), frame=3, other=TOP, one=EXTEND)
            self.assertEqual((paper.one, paper.other, paper.frame, paper.group), (EXTEND, TOP, 3, ("a",)))

    def test_the_module_defines_them(self):
        for kind in (Paper, Alike, Parted, Exceeds):
            self.assertEqual(kind.__module__, module.__name__)


class TestAlikeValues(Base):
    def test_what_is_told(self):
        for rows, text in (
            ([], "alike 0"), ((), "alike 0"), ([1, 2], "alike 2"), ((None, (), []), "alike 3"), (None, "alike 0"),
            ("abc", "alike 0"), (7, "alike 0"), (True, "alike 0"),
        ):
            paper = Alike(TOP, EXTEND, rows)
            self.assertEqual((paper.told(), repr(paper), bool(paper)), (text, f"Paper({text})", True))
            self.assertIs(paper.one, TOP)
            self.assertIs(paper.other, EXTEND)

    def test_any_values_may_be_passed(self):
        for value in ODD_VALUES:
            expected = list(value) if isinstance(value, tuple) else value
            rows = Alike(TOP, EXTEND, value).rows()
            facts = Alike(TOP, EXTEND, [], facts=value).facts()
            self.assertEqual((type(rows), rows), (type(expected), expected))
            self.assertEqual((type(facts), facts), (type(expected), expected))
        self.assertEqual(Alike(TOP, EXTEND, []).facts(), [])

    def test_lists_are_copied(self):
        rows, facts = [[1], ([2], 3)], [[4], (5, [6])]
        paper = Alike(TOP, TOP, rows, facts=facts)
        rows.append(1)
        rows[0].append(7)
        rows[1][0].append(8)
        facts.clear()
        self.assertEqual((paper.rows(), paper.facts()), ([[1], ([2], 3)], [[4], (5, [6])]))

    def test_returned_lists_are_new(self):
        paper = Alike(TOP, TOP, ([1], ([2], 3)), facts=([4], (5, [6])))
        rows, facts = paper.rows(), paper.facts()
        rows[0].append(7)
        rows[1][0].append(8)
        rows.append(9)
        facts[0].append(7)
        facts[1][1].append(8)
        facts.pop()
        self.assertEqual((paper.rows(), paper.facts()), ([[1], ([2], 3)], [[4], (5, [6])]))

    def test_lists_within_tuples_stay_in_tuples(self):
        paper = Alike(TOP, TOP, [(1, (2, [3, (4,)]))], facts=())
        self.assertEqual(paper.rows(), [(1, (2, [3, (4,)]))])


class TestAlikeHolds(Base):
    def check(self, expected, one, other, rows, facts=()):
        self.assertIs(Alike(one, other, rows, facts=facts).holds(), expected)

    def test_right_rows(self):
        drawn = random.Random(3)
        for one, other, facts in alike_pairs(drawn, 60):
            rows = right_rows(one, other, facts)
            self.check(True, one, other, rows, facts)
            self.check(True, one, other, tuple(rows), tuple(facts))
            self.check(True, other, one, rows[::-1], facts)
            self.check(True, one, other, rows + rows[:2], facts)
            self.check(True, one, other, drawn.sample(rows, len(rows)), facts)

    def test_a_row_left_out(self):
        drawn = random.Random(4)
        for one, other, facts in alike_pairs(drawn, 40):
            rows = right_rows(one, other, facts)
            for at in drawn.sample(range(len(rows)), min(4, len(rows))):
                self.check(False, one, other, rows[:at] + rows[at + 1:], facts)
                if len(rows) > 1:
                    self.check(False, one, other, rows[:at] + [rows[at - 1]] + rows[at + 1:], facts)

    def test_results_exchanged_and_changed(self):
        drawn = random.Random(5)
        seen = 0
        for one, other, facts in alike_pairs(drawn, 60):
            rows = right_rows(one, other, facts)
            for at in drawn.sample(range(len(rows)), min(4, len(rows))):
                frame, result = rows[at]
                for wrong in [row[1] for row in drawn.sample(rows, min(4, len(rows)))]:
                    if wrong != result:
                        seen += 1
                        self.check(False, one, other, rows + [(frame, wrong)], facts)
                        self.check(False, one, other, rows[:at] + [(frame, wrong)] + rows[at + 1:], facts)
                gaps = (result.gaps[0] + 1, result.gaps[1])
                wrong = Frame(result.first, result.middle, result.last, gaps=gaps, spares=result.spares)
                self.check(False, one, other, rows[:at] + [(frame, wrong)] + rows[at + 1:], facts)
        self.assertGreater(seen, 100)

    def test_rows_beyond_the_cuts(self):
        for one, other, facts in alike_pairs(random.Random(6), 25):
            rows, more = right_rows(one, other, facts), right_rows(one, other, facts, more=1)
            self.check(True, one, other, more, facts)
            if not more:
                continue
            frame, result = more[-1]
            gaps = (result.gaps[0] + 1, result.gaps[1])
            wrong = Frame(result.first, result.middle, result.last, gaps=gaps, spares=result.spares)
            self.check(False, one, other, rows + [(frame, wrong)], facts)

    def test_rows_of_frames_that_do_not_keep_the_facts(self):
        for facts in ([("least", ("a",), 1)], [("most", ("a",), 0)], IMPOSSIBLE, []):
            rows, needed = right_rows(TOP, TOP), right_rows(TOP, TOP, facts)
            self.check(True, TOP, TOP, rows, facts)
            self.check(True, TOP, TOP, needed, facts)
            for at, row in enumerate(rows):
                self.check(row not in needed, TOP, TOP, rows[:at] + rows[at + 1:], facts)
                wrong = rows[:at] + [(row[0], row[0])] + rows[at + 1:]
                self.check(False, TOP, TOP, wrong, facts)

    def test_facts_that_no_structure_keeps(self):
        self.check(True, TOP, EXTEND, [], IMPOSSIBLE)
        self.check(True, TOP, EXTEND, (), IMPOSSIBLE)
        for value in NO_LISTS:
            self.check(False, TOP, EXTEND, value, IMPOSSIBLE)
        for value in ODD_VALUES:
            self.check(False, TOP, EXTEND, [value], IMPOSSIBLE)
        both = [("least", ("a",), 1), ("most", ("a",), 0)]
        self.check(True, TOP, EXTEND, [], both)
        self.check(False, TOP, EXTEND, [], both[:1])

    def test_values_that_are_no_facts(self):
        rows = right_rows(TOP, TOP)
        self.check(True, TOP, TOP, rows, [("least", ("a",), 0)])
        for value in NO_LISTS:
            self.check(False, TOP, TOP, rows, value)
        for value in ODD_VALUES + [("least", ("b",), 0), ("least", ("p",), 0), ["least", ("a",), 0], ("least", ("a",), True)]:
            self.check(False, TOP, TOP, rows, [value])
            self.check(False, TOP, TOP, rows, [("least", ("a",), 0), value])

    def test_values_that_are_no_rows(self):
        rows = right_rows(TOP, TOP)
        self.check(True, TOP, TOP, rows)
        for value in NO_LISTS + [{}, rows[0][0]]:
            self.check(False, TOP, TOP, value)
        frame, result = rows[0]
        wrong = ODD_VALUES + [
            [frame, result], (frame,), (frame, result, result), (result, frame), (frame, None), (frame, ONE), (None, result),
            (ONE, result), ((frame, result),), frame, result, (frame, (result,)),
        ]
        for value in wrong:
            self.check(False, TOP, TOP, rows + [value])
            self.check(False, TOP, TOP, [value] + rows)
            self.check(False, TOP, TOP, [value] + rows[1:])

    def test_frames_with_other_names(self):
        rows = right_rows(TOP, TOP)
        for names in ([], ["b"], ["p"], ["a", "b"]):
            frame = all_frames(names, 0, 0)[0]
            for result in (frame, rows[0][1]):
                self.check(False, TOP, TOP, rows + [(frame, result)])

    def test_scripts_that_leave_unlike_frames(self):
        for one, other in ((TOP, EXTEND), (TOP, LOST), (EXTEND, LOST)):
            for leads in (one, other):
                rows = right_rows(leads, leads, more=1)
                self.check(False, one, other, rows)

    def test_scripts_that_do_not_go_together(self):
        empty = Script(["a"])
        for other in (
            Script([]), Script(["b"]), Script(["a", "b"], (("delete", "b"),)), Script(["b"], (("rename", "b", "a"),)),
            Script(["a"], (("rename", "a", "b"),)), Script(["a"], (("delete", "a"),)), Script(["a"], (DUAL,)),
            Script(["a"], (("extend", "b", ()),)), Script(["b", "c"], (("rename", "b", "a"), ("delete", "c"))),
        ):
            for one, two in ((empty, other), (other, empty)):
                for script in (one, two):
                    self.check(False, one, two, right_rows(script, script), [])
                self.check(False, one, two, [], [("least", (), 1)])
        self.check(True, empty, empty, [], [("least", (), 1)])
        self.check(True, empty, Script(["a"], (DUAL, DUAL)), right_rows(empty, empty))

    def test_no_names_and_no_steps(self):
        empty = Script([])
        rows = right_rows(empty, empty)
        self.assertEqual(len(rows), 1)
        self.check(True, empty, empty, rows)
        self.check(False, empty, empty, [])
        self.check(False, empty, empty, [rows[0][0]])

    def test_the_greater_cut_of_both_scripts(self):
        spare = Script([], (DUAL, repeat(1, CUT), DUAL))
        rows = right_rows(spare, spare)
        self.check(True, spare, spare, rows)
        self.check(False, spare, spare, [row for row in rows if row[0].spares[1] < 1])
        whole = ("if", ("whole",), (), ())
        gap, both = Script([], (whole,)), Script([], (DUAL, whole, DUAL))
        rows = right_rows(gap, both)
        self.assertEqual(len(rows), 9)
        self.check(True, gap, both, rows)
        self.check(True, both, gap, rows)
        for at in range(len(rows)):
            self.check(False, gap, both, rows[:at] + rows[at + 1:])
            self.check(False, both, gap, rows[:at] + rows[at + 1:])

    def test_three_names_and_three_looks(self):
        one = Script(["a", "b", "c"], (CUT, ("top", "p"), ("delete", "p"), ("if", ("whole",), (), ())))
        other = Script(["a", "b", "c"], (CUT,))
        rows = right_rows(one, one)
        self.check(True, one, other, rows)
        self.check(True, other, one, rows)
        for at in (0, 1, len(rows) // 2, len(rows) - 1):
            self.check(False, one, other, rows[:at] + rows[at + 1:])


class TestParted(Base):
    def test_all_sets_of_drawn_scripts(self):
        drawn = random.Random(8)
        unlike = 0
        for _ in range(60):
            names = drawn.choice([[], ["a"], ["a"], ["a", "b"]])
            one, other = drawn_pair(drawn, names)
            frames = all_frames(names, 2, 2)
            for frame in drawn.sample(frames, min(12, len(frames))):
                for group, first, second in pairs_of_ranks(one, other, frame):
                    unlike += first != second
                    parted, exceeds = Parted(one, other, frame, group), Exceeds(one, other, frame, group)
                    self.assertEqual((parted.ranks(), exceeds.ranks()), ((first, second), (first, second)))
                    self.assertIs(parted.holds(), first != second)
                    self.assertIs(exceeds.holds(), first > second)
        self.assertGreater(unlike, 60)

    def test_what_is_told(self):
        frame = Frame(ONE, ONE, NONE)
        for kind, word in ((Parted, "parted"), (Exceeds, "exceeds")):
            for group in (("p",), ("x",)):
                paper = kind(TOP, EXTEND, frame, group)
                self.assertEqual((paper.told(), repr(paper), paper.group), (word, f"Paper({word})", group))
                self.assertIs(paper.frame, frame)
                self.assertIs(paper.one, TOP)
                self.assertIs(paper.other, EXTEND)
                self.assertIs(bool(paper), False)

    def test_the_set_with_the_marked_elements(self):
        frame = Frame(NONE, NONE, NONE, gaps=(1, 1))
        for kind in (Parted, Exceeds):
            paper = kind(TOP, EXTEND, frame, ("p",))
            self.assertEqual((paper.ranks(), paper.holds()), ((1, 0), True))
            paper = kind(EXTEND, TOP, frame, ("p",))
            self.assertEqual((paper.ranks(), paper.holds()), ((0, 1), kind is Parted))
            paper = kind(EXTEND, TOP, frame, ())
            self.assertEqual((paper.ranks(), paper.holds()), ((0, 0), False))
            paper = kind(TOP, EXTEND, Frame(NONE, NONE, NONE, gaps=(1, 0)), ("p",))
            self.assertEqual((paper.ranks(), paper.holds()), ((1, 1), False))

    def test_values_that_are_no_frames(self):
        wrong = ODD_VALUES + [ONE, (ONE, ONE, ONE), Paper(TOP, TOP)] + [all_frames(names, 0, 0)[0] for names in ([], ["b"], ["p"])]
        for value in wrong:
            for kind in (Parted, Exceeds):
                paper = kind(TOP, EXTEND, value, ("p",))
                self.assertIsNone(paper.ranks())
                self.assertIs(paper.holds(), False)
                self.assertEqual((type(paper.frame), paper.frame), (type(value), value))

    def test_values_that_are_no_groups_of_the_ends(self):
        frame = Frame(NONE, NONE, NONE, gaps=(1, 1))
        wrong = [value for value in ODD_VALUES if value != ()] + [["p"], "p", ("p", "p"), ("a", "p"), ("P",), ("p", "q"), (("p",),)]
        for value in wrong:
            for kind in (Parted, Exceeds):
                paper = kind(TOP, EXTEND, frame, value)
                self.assertIsNone(paper.ranks())
                self.assertIs(paper.holds(), False)
                self.assertEqual((type(paper.group), paper.group), (type(value), value))
        wide = Script.read(["a"], "top p ; extend b")
        for group, fits in ((("a", "b", "p"), True), (("b", "a"), False), (("p", "a"), False), (("a", "p"), True)):
            self.assertEqual(Parted(wide, wide, frame, group).ranks() is not None, fits)

    def test_scripts_that_do_not_go_together(self):
        empty, frame = Script(["a"]), Frame(ONE, ONE, ONE, gaps=(2, 1), spares=(0, 1))
        for other in (
            Script([]), Script(["b"]), Script(["a", "b"], (("delete", "b"),)), Script(["b"], (("rename", "b", "a"),)),
            Script(["a"], (("delete", "a"),)), Script(["a"], (DUAL,)), Script(["a"], (("top", "b"),)),
        ):
            for group in ((), ("a",)):
                for one, two in ((empty, other), (other, empty)):
                    for kind in (Parted, Exceeds):
                        for some in (frame, all_frames(other.names(), 1, 1)[-1]):
                            self.assertIs(kind(one, two, some, group).holds(), False)
        turned = Script(["a"], (DUAL, CUT))
        self.assertIs(Parted(turned, Script(["a"], (DUAL,)), frame, ("a",)).holds(), True)

    def test_lists_are_copied_and_returned_lists_are_new(self):
        for kind in (Parted, Exceeds):
            frame, group = [[1], 2], ["a", ["b"]]
            paper = kind(TOP, TOP, frame, group)
            frame[0].append(3)
            group.clear()
            paper.frame.append(4)
            paper.group[1].append("c")
            self.assertEqual((paper.frame, paper.group), ([[1], 2], ["a", ["b"]]))

    def test_great_counts(self):
        frame = Frame(NONE, NONE, NONE, gaps=(1000000, 999999), spares=(5, 1000000))
        paper = Exceeds(TOP, EXTEND, frame, ("p",))
        self.assertEqual((paper.ranks(), paper.holds()), ((2, 1), True))

    def test_turned_scripts(self):
        one, other = Script([], (DUAL, CUT)), Script([], (DUAL,))
        bare = Structure([], [0])
        for spares, ranks in (((0, 1), (0, 1)), ((1, 1), (0, 0))):
            # Behind the dual, the loops that were not marked are marked bridges.
            paper = Parted(one, other, Frame(bare, bare, bare, spares=spares), ())
            self.assertEqual((paper.ranks(), paper.holds()), (ranks, ranks[0] != ranks[1]))
            self.assertIs(Exceeds(other, one, paper.frame, ()).holds(), ranks[0] != ranks[1])


class TestHelp(Base):
    def test_the_groups_by_their_indexes(self):
        self.assertEqual(groups_by_index(["a", "b"]), [(), ("a",), ("b",), ("a", "b")])

    def test_the_frames_that_keep_facts(self):
        frames = all_frames(["a"], 0, 0)
        self.assertEqual(kept(frames, IMPOSSIBLE), [])
        self.assertEqual(list(marked_behind(TOP, Frame(ONE, NONE, NONE))), [0])


if __name__ == "__main__":
    unittest.main()
