import inspect
import random
import unittest

from brute import ODD_VALUES, subsets
from framing import order
from pairing import drawn_facts, drawn_pair, first_set, frames_that_matter, is_kept, marked_behind, paired, ranks_left
from pairing import shown_behind
from samples import with_splits
from scripting import CUT, DUAL, WHOLE, Base, both, repeat
from test_facts import RIGHT, WRONG
from test_running import tried
from unseenrest import comparing as module
from unseenrest.comparing import are_alike, compare, fewest, never_more
from unseenrest.errors import InvalidFact, UnlikeNames, UnlikeTurns
from unseenrest.papers import Alike, Exceeds, Parted
from unseenrest.running import run
from unseenrest.scripts import Script
from unseenrest.structures import Structure

CALLS = (compare, are_alike, never_more, fewest)
FAR, NEAR = Script.read(["a"], "top p ; delete a"), Script.read(["a"], "extend p a ; delete a")
NAMES = [[], ["a"], ["a"], ["a", "b"]]


def unlike(first, second):
    return first != second


def greater(first, second):
    return first > second


class TestCompare(Base):
    def test_against_all_frames_and_groups_in_their_order(self):
        drawn = random.Random(11)
        kinds = []
        for _ in range(250):
            names = drawn.choice(NAMES)
            one, other = drawn_pair(drawn, names)
            facts = drawn_facts(drawn, names)
            self.check_compare(one, other, facts)
            kinds.append(compare(one, other, facts=facts).KIND)
        self.assertGreater(kinds.count("parted"), 50)
        self.assertGreater(kinds.count("alike"), 100)

    def check_compare(self, one, other, facts):
        frames = frames_that_matter(facts, one, other)
        expected = first_set(one, other, frames, unlike)
        paper = compare(one, other, facts=facts)
        self.assertIs(paper.one, one)
        self.assertIs(paper.other, other)
        self.assertIs(paper.holds(), True)
        if expected is None:
            self.assertIs(type(paper), Alike)
            self.assertEqual(paper.rows(), [(frame, shown_behind(other, frame)) for frame in frames])
            self.assertEqual((paper.facts(), paper.told()), (list(facts), f"alike {len(frames)}"))
        else:
            self.assertIs(type(paper), Parted)
            self.assertEqual((paper.frame, paper.group), expected)
        self.assertIs(are_alike(one, other, facts=facts), expected is None)
        self.assertEqual(fewest(one, other, facts=facts), None if expected is None else expected[0].unseen)
        expected = first_set(one, other, frames, greater)
        paper = never_more(one, other, facts=facts)
        if expected is None:
            self.assertIsNone(paper)
        else:
            self.assertIs(type(paper), Exceeds)
            self.assertEqual((paper.one, paper.other, paper.frame, paper.group), (one, other) + expected)
            self.assertIs(paper.holds(), True)

    def test_three_names(self):
        names = ["a", "b", "c"]
        facts = [("least", ("a", "b"), 2), ("most", ("a", "b", "c"), 2)]
        delete = Script(names, (("delete", "a"), ("truncate", ("b", "c"))))
        exchanged = Script(names, (("truncate", ("b", "c")), ("delete", "a")))
        self.check_compare(delete, exchanged, [])
        self.check_compare(delete, exchanged, facts)
        cut = Script(names, (CUT, ("top", "p"), ("delete", "p")))
        self.check_compare(cut, Script(names, (CUT,)), facts)
        self.check_compare(cut, Script(names, (("truncate", ("a", "b", "c")),)), facts)

    def test_on_structures_set_by_set(self):
        drawn = random.Random(12)
        kinds = []
        while len(kinds) < 120:
            names = drawn.choice(NAMES)
            one, other = drawn_pair(drawn, names)
            facts = drawn_facts(drawn, names)
            paper = compare(one, other, facts=facts)
            kinds.append(paper.KIND)
            some = [
                structure for structure in drawn.sample(tried(drawn), 40)
                if structure.names() == names and all(is_kept(structure, fact) for fact in facts)
            ]
            least = fewest(one, other, facts=facts)
            for structure in some:
                same = ranks_left(one, structure) == ranks_left(other, structure)
                if least is None or structure.unseen < least:
                    self.assertTrue(same)
                self.assertLessEqual(are_alike(one, other, facts=facts), same)
            if least is not None:
                structure = paper.frame.built()
                self.assertTrue(all(is_kept(structure, fact) for fact in facts))
                self.assertEqual(structure.unseen, least)
                part = frozenset(paper.group) | frozenset(marked_behind(one, paper.frame))
                first, second = ranks_left(one, structure), ranks_left(other, structure)
                self.assertEqual(paper.ranks(), (first[part], second[part]))
                self.assertNotEqual(first[part], second[part])
        self.assertGreater(kinds.count("parted"), 20)

    def test_alike_on_structures_beyond_the_cuts(self):
        drawn = random.Random(13)
        pairs = 0
        while pairs < 40:
            names = drawn.choice([["a"], ["a", "b"]])
            one, other = drawn_pair(drawn, names)
            if are_alike(one, other):
                pairs += 1
                for frame in drawn.sample(frames_that_matter([], one, other, more=1), 10):
                    self.assertEqual(run(one, frame.built()), run(other, frame.built()))

    def test_the_fewest_unseen_elements_of_all_structures(self):
        # Three looks tell structures with three unseen loops or bridges from those with two.
        bare = [structure for count in range(5) for structure in with_splits(count, named=0)]
        cuts = [Script([], (repeat(many, CUT),) if many else ()) for many in range(4)]
        turned = [Script([], (DUAL,) + script.steps() + (DUAL,)) for script in cuts]
        for scripts in (cuts, turned):
            for one in scripts:
                for other in scripts:
                    differ = [some.unseen for some in bare if run(one, some) != run(other, some)]
                    self.assertEqual(fewest(one, other), min(differ, default=None))
                    self.assertIs(are_alike(one, other), one is other)
        self.assertEqual(fewest(cuts[2], cuts[3]), 3)
        self.assertEqual(fewest(turned[2], turned[3]), 3)
        self.assertEqual(compare(turned[3], turned[2]).frame.spares[1], 3)

    def test_the_rows_are_ordered(self):
        paper = compare(Script(["a", "b"], (CUT,)), Script(["a", "b"], (CUT, DUAL, DUAL)))
        frames = [row[0] for row in paper.rows()]
        self.assertEqual(frames, sorted(frames, key=order))
        self.assertTrue(all(type(row) is tuple for row in paper.rows()))

    def test_no_names_and_no_steps(self):
        empty = Script([])
        paper = compare(empty, Script([]))
        self.assertEqual((paper.told(), fewest(empty, empty), never_more(empty, empty)), ("alike 1", None, None))
        self.assertEqual(paper.rows()[0][0], paper.rows()[0][1])
        paper = compare(empty, Script([], (CUT,)))
        self.assertEqual((paper.told(), paper.group, paper.ranks(), paper.frame.unseen), ("parted", (), (1, 0), 1))
        self.assertIsNone(never_more(Script([], (CUT,)), empty))
        self.assertEqual(never_more(empty, Script([], (CUT,))).ranks(), (1, 0))

    def test_both_cuts_at_once(self):
        gap, spare = Script([], (both(WHOLE, ()),)), Script([], (DUAL, both(WHOLE, ()), DUAL))
        self.assertEqual(compare(gap, spare).told(), "alike 9")
        self.assertEqual(compare(spare, gap).told(), "alike 9")

    def test_other_looks_at_the_same(self):
        test = both(WHOLE, (("truncate", ("a",)),), (CUT,))
        one = Script(["a"], (("top", "p"), ("delete", "a"), both(WHOLE, ())))
        self.check_compare(one, Script(["a"], (("top", "p"), ("delete", "a"))), [])
        self.check_compare(Script(["a"], (test,)), Script(["a"], (CUT,)), [])
        self.check_compare(Script(["a"], (test,)), Script(["a"], (CUT,)), [("least", ("a",), 1)])

    def test_facts_that_decide(self):
        one, other = Script(["a", "b"], (("delete", "a"),)), Script(["a", "b"], (("contract", "a"),))
        self.assertIs(are_alike(one, other), False)
        self.assertIs(are_alike(one, other, facts=[("most", ("a",), 0)]), True)
        self.assertIs(are_alike(one, other, facts=(("most", ("a",), 0),)), True)
        self.assertIs(are_alike(one, other, facts=[("most", ("b",), 0)]), False)
        paper = compare(one, other, facts=[("most", ("b",), 0)])
        self.assertEqual((paper.frame.first.rank("b"), paper.frame.first.rank("a")), (0, 1))

    def test_facts_that_no_structure_keeps(self):
        one, other = Script(["a"], (CUT,)), Script(["a"])
        for facts in ([("least", ("a",), 2)], [("least", ("a",), 1), ("most", ("a",), 0)], [("least", (), 1)]):
            paper = compare(one, other, facts=facts)
            self.assertEqual((paper.told(), paper.rows(), paper.facts(), paper.holds()), ("alike 0", [], facts, True))
            self.assertIs(are_alike(one, other, facts=facts), True)
            self.assertIsNone(fewest(one, other, facts=facts))
            self.assertIsNone(never_more(one, other, facts=facts))

    def test_pieces(self):
        used = Script(["a"], (("use", "x"), ("delete", "a")), pieces={"x": (("top", "p"),)})
        self.assertIs(are_alike(used, FAR), True)
        self.assertEqual(fewest(used, NEAR), 1)

    def test_scripts_that_turn(self):
        one = Script(["a"], (("contract", "a"), DUAL))
        other = Script(["a"], (DUAL, ("delete", "a")))
        self.assertIs(are_alike(one, other), True)
        self.assertIs(are_alike(one, Script(["a"], (DUAL, ("contract", "a")))), False)

    def test_the_truth_of_the_answers(self):
        for value in (are_alike(FAR, FAR), are_alike(FAR, NEAR)):
            self.assertIsInstance(value, bool)
        self.assertEqual(type(fewest(FAR, NEAR)), int)

    def test_a_turned_pair(self):
        drawn = random.Random(14)
        turned = 0
        while turned < 40:
            names = drawn.choice([[], ["a"]])
            one, other = drawn_pair(drawn, names)
            if one.turned:
                turned += 1
                self.check_compare(one, other, drawn_facts(drawn, names))


class TestErrors(Base):
    def test_unlike_names(self):
        empty = Script(["a"])
        for other in (
            Script([]), Script(["b"]), Script(["a", "b"], (("delete", "b"),)), Script(["b"], (("rename", "b", "a"),)),
            Script(["a"], (("delete", "a"),)), Script(["a"], (("rename", "a", "b"),)), Script(["a"], (("top", "b"),)),
            Script(["a"], (("top", "b"), DUAL)), Script(["b"], (DUAL,)),
        ):
            self.assertFalse(paired(empty, other))
            for call in CALLS:
                for facts in ([], [None], None):
                    self.check_raises(UnlikeNames, {}, call, empty, other, facts=facts)
                    self.check_raises(UnlikeNames, {}, call, other, empty, facts=facts)

    def test_unlike_turns(self):
        empty, turned = Script(["a"]), Script(["a"], (DUAL,))
        for call in CALLS:
            for facts in ([], [None], None, [("least", ("b",), 0)]):
                self.check_raises(UnlikeTurns, {}, call, empty, turned, facts=facts)
                self.check_raises(UnlikeTurns, {}, call, turned, empty, facts=facts)

    def test_invalid_facts(self):
        script = Script(["a", "b"], (("extend", "p", ()),))
        for call in CALLS:
            for value in WRONG + [("least", ("p",), 0)]:
                self.check_raises(InvalidFact, {"at": 0}, call, script, script, facts=[value, None])
                self.check_raises(InvalidFact, {"at": 1}, call, script, script, facts=(("least", (), 6), value))
            for value in [value for value in ODD_VALUES if not isinstance(value, (list, tuple))]:
                self.check_raises(InvalidFact, {"at": 0}, call, script, script, facts=value)
            call(script, script, facts=RIGHT)

    def test_arguments_stay(self):
        facts = [("least", ("a",), 1)]
        for call in CALLS:
            call(FAR, NEAR, facts=facts)
        self.assertEqual(facts, [("least", ("a",), 1)])
        paper = compare(FAR, FAR, facts=facts)
        facts.append(("most", ("a",), 0))
        self.assertEqual(paper.facts(), [("least", ("a",), 1)])

    def test_parameters(self):
        for call in CALLS:
            self.assertEqual(str(inspect.signature(call)), "(one, other, *, facts=())")
            self.assertEqual(call.__module__, module.__name__)
        self.assertEqual(fewest(facts=[], other=NEAR, one=FAR), 1)
        self.assertEqual(compare(facts=(), other=NEAR, one=FAR).ranks(), (1, 0))
        self.assertIs(are_alike(other=NEAR, one=FAR), False)
        self.assertIsNone(never_more(other=FAR, one=NEAR))


class TestSets(Base):
    def test_never_more_on_structures_set_by_set(self):
        drawn = random.Random(15)
        found = 0
        while found < 60:
            names = drawn.choice(NAMES)
            one, other = drawn_pair(drawn, names)
            paper = never_more(one, other)
            found += 1
            for structure in drawn.sample(tried(drawn), 30):
                if structure.names() == names:
                    first, second = ranks_left(one, structure), ranks_left(other, structure)
                    if any(first[part] > second[part] for part in subsets(max(first, key=len))):
                        self.assertIsNotNone(paper)
                        self.assertLessEqual(paper.frame.unseen, structure.unseen)

    def test_a_structure_with_its_unseen_elements(self):
        structure = Structure(["a"], [0, 0, 1, 1], unseen=1)
        self.assertEqual((run(FAR, structure).rank("p"), run(NEAR, structure).rank("p")), (1, 0))


if __name__ == "__main__":
    unittest.main()
