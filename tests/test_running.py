import inspect
import random
import unittest

import changing
from brute import ODD_VALUES, ranks_of, subsets
from checking import Wrong, checked
from samples import columns_table, larger, small, with_splits
from scripting import CUT, WHOLE, Base, both, repeat
from stepping import fitting_group, fitting_steps
from unseenrest import running
from unseenrest.building import from_columns
from unseenrest.errors import TooMany, UnlikeNames
from unseenrest.running import holds_in, run, trace
from unseenrest.scripts import Script
from unseenrest.structures import Structure

WHOLE_LIMIT = {"subject": "elements", "most": 12}


def holds(ranks, test):
    """Whether a test holds, by point 7."""
    names = frozenset(item for item in changing.everything(ranks) if isinstance(item, str))
    if test == ("whole",):
        return ranks[names] == ranks[changing.everything(ranks)]
    if test[0] == "rank":
        return ranks[frozenset(test[1])] >= test[2]
    return ranks[frozenset(test[1]) | {test[2]}] == ranks[frozenset(test[1])]


def done(ranks, steps):
    """The pairs of the single steps that are done and the ranks behind them, by points 4 and 7."""
    pairs = []
    for step in steps:
        if step[0] == "repeat":
            inner = [list(step[2])] * step[1]
        elif step[0] == "if":
            inner = [list(step[2] if holds(ranks, step[1]) else step[3])]
        else:
            inner = []
            ranks = changing.changed(ranks, step)
            pairs.append((step, ranks))
        for some in inner:
            more = done(ranks, some)
            pairs += more
            ranks = more[-1][1] if more else ranks
    return pairs


def tried(drawn):
    structures = [structure for structure in small() if len(structure) < 4]
    structures += drawn.sample(with_splits(4, named=3), 12) + drawn.sample(with_splits(4, named=1), 12)
    return [Structure(["a", "b", "c"][:len(one)], one.table(), unseen=one.unseen) for one in structures]


def drawn_script(drawn, names):
    while True:
        steps = fitting_steps(drawn, names, drawn.randrange(7))
        try:
            checked(names, steps, {})
        except Wrong:
            continue
        return Script(names, steps)


class TestHoldsIn(Base):
    def test_by_the_definition(self):
        drawn = random.Random(1)
        for structure in small() + with_splits(4, named=2) + larger()[:2]:
            ranks, names = ranks_of(structure), structure.names()
            tests = [("whole",)] + [("rank", fitting_group(drawn, names), rank) for rank in range(7)]
            for part in subsets(names)[:16]:
                tests += [("rank", tuple(sorted(part)), structure.rank(*part) + more) for more in (-1, 0, 1)]
                tests += [("spans", tuple(sorted(part)), name) for name in names]
            for test in tests:
                self.assertIs(holds_in(structure, test), holds(ranks, test))

    def test_unseen_elements_count_for_whole_alone(self):
        structure = Structure(["a"], [0, 1, 1, 2], unseen=1)
        self.assertIs(holds_in(structure, ("whole",)), False)
        self.assertIs(holds_in(Structure(["a"], [0, 1, 1, 1], unseen=1), ("whole",)), True)
        self.assertIs(holds_in(structure, ("rank", ("a",), 1)), True)
        self.assertIs(holds_in(structure, ("rank", ("a",), 2)), False)

    def test_edges(self):
        bare = Structure([], [0])
        for test, expected in ((("whole",), True), (("rank", (), 0), True), (("rank", (), 1), False)):
            self.assertIs(holds_in(bare, test), expected)
        structure = from_columns({"a": [0], "b": [1]})
        self.assertEqual([holds_in(structure, ("spans", (), name)) for name in "ab"], [True, False])
        self.assertIs(holds_in(structure, ("spans", ("b",), "b")), True)


class TestRun(Base):
    def test_set_by_set(self):
        drawn = random.Random(2)
        words = set()
        for structure in tried(drawn) * 3:
            script = drawn_script(drawn, structure.names())
            pairs = done(ranks_of(structure), script.plain())
            words.update(step[0] for step, ranks in pairs)
            found = list(trace(script, structure))
            self.assertEqual([step for step, behind in found], [step for step, ranks in pairs])
            for (step, behind), (same, ranks) in zip(found, pairs):
                self.assertEqual((ranks_of(behind), behind.unseen), (ranks, structure.unseen))
            last = run(script, structure)
            self.assertEqual(last, found[-1][1] if found else structure)
            self.assertEqual(last.names(), script.ends())
        self.assertEqual(len(words), 9)

    def test_the_parts_of_an_if(self):
        script = Script(["a"], (both(("rank", ("a",), 1), (("contract", "a"),), (("delete", "a"),)), ("top", "p")))
        self.assertEqual([step for step, behind in trace(script, Structure.free(["a"]))], [("contract", "a"), ("top", "p")])
        loop = Structure.uniform(["a"], 0)
        self.assertEqual([step for step, behind in trace(script, loop)], [("delete", "a"), ("top", "p")])

    def test_each_round_of_a_repeat_looks_again(self):
        step = both(("rank", ("a",), 1), (("truncate", ("a",)),), (("unite", (("a",),)),))
        script = Script(["a"], (repeat(3, step),))
        words = [step[0] for step, behind in trace(script, Structure.free(["a"]))]
        self.assertEqual(words, ["truncate", "unite", "truncate"])

    def test_steps_within_steps(self):
        inner = repeat(2, ("rename", "a", "b"), repeat(2, ("rename", "b", "b")), ("rename", "b", "a"))
        script = Script(["a"], (CUT, both(WHOLE, (inner, ("truncate", ()))), CUT))
        words = [step for step, behind in trace(script, Structure.free(["a"]))]
        once = [("rename", "a", "b"), ("rename", "b", "b"), ("rename", "b", "b"), ("rename", "b", "a")]
        self.assertEqual(words, [CUT] + once * 2 + [("truncate", ()), CUT])

    def test_pieces(self):
        script = Script(["a"], (("use", "x"), repeat(2, ("use", "x"))), pieces={"x": (CUT,)})
        self.assertEqual([step for step, behind in trace(script, Structure.free(["a"]))], [CUT] * 3)

    def test_no_steps(self):
        structure = Structure(["a"], [0, 1, 1, 1], unseen=1)
        for script in (Script(["a"]), Script(["a"], (repeat(4), both(WHOLE, ())))):
            self.assertEqual(run(script, structure), structure)
            self.assertEqual(list(trace(script, structure)), [])

    def test_the_first_structure_stays(self):
        structure = Structure(["a"], [0, 1, 1, 2], unseen=1)
        run(Script(["a"], (CUT, ("delete", "a"))), structure)
        self.assertEqual((structure.names(), structure.table()), (["a"], [0, 1, 1, 2]))


class TestErrors(Base):
    def test_unlike_names(self):
        script = Script(["b", "a"], (CUT,))
        others = [Structure([], [0]), Structure.free(["a"]), Structure.free(["a", "c"]), Structure.free(["a", "b", "c"])]
        for structure in others + ODD_VALUES + [script]:
            self.check_raises(UnlikeNames, {}, run, script, structure)
            self.check_raises(UnlikeNames, {}, list, trace(script, structure))
        self.assertEqual(run(script, Structure.free(["b", "a"])).full, 1)

    def test_a_generator_raises_when_its_first_item_is_asked_for(self):
        pairs = trace(Script(["a"], (CUT,)), Structure([], [0]))
        self.check_raises(UnlikeNames, {}, next, pairs)

    def test_too_many_elements_on_the_way(self):
        structure = from_columns({"a": [1]}, unseen=[[0]] * 9)
        top = (("top", "p"), ("extend", "q", ("a",)))
        self.assertEqual(len(run(Script(["a"], top), structure)), 3)
        for more in (("top", "r"), ("extend", "r", ())):
            script = Script(["a"], top + (more, ("delete", "p"), ("delete", "q"), ("delete", "r")))
            self.check_raises(TooMany, WHOLE_LIMIT, run, script, structure)
            self.assertEqual(run(script, Structure.free(["a"])), Structure.free(["a"]))
        script = Script(["a"], (repeat(3, ("top", "p"), ("delete", "p")),))
        self.assertEqual(run(script, structure), structure)

    def test_a_trace_raises_only_when_the_pair_would_come(self):
        structure = Structure(["a", "b", "c"], columns_table([1, 2, 3] + [0] * 8), unseen=8)
        script = Script(["a", "b", "c"], (CUT, ("top", "p"), ("top", "q"), ("delete", "a")))
        pairs = trace(script, structure)
        self.assertEqual([next(pairs)[0], next(pairs)[0]], [CUT, ("top", "p")])
        self.check_raises(TooMany, WHOLE_LIMIT, next, pairs)
        step = both(("rank", (), 1), (("top", "p"), ("top", "q")), (("top", "p"), ("extend", "q", ())))
        script = Script(["a", "b", "c"], (step,))
        pairs = trace(script, structure)
        self.assertEqual(next(pairs)[0], ("top", "p"))
        self.check_raises(TooMany, WHOLE_LIMIT, next, pairs)

    def test_steps_that_are_not_done_do_not_count(self):
        structure = Structure(["a", "b", "c"], columns_table([1, 2, 3] + [0] * 9), unseen=9)
        step = both(("rank", ("a",), 2), (("top", "p"), ("delete", "p")), (CUT,))
        self.assertEqual(run(Script(["a", "b", "c"], (step,)), structure).full, 1)


class TestInterface(unittest.TestCase):
    def test_parameters(self):
        either = inspect.Parameter.POSITIONAL_OR_KEYWORD
        for name, parameters in (
            ("holds_in", ["structure", "test"]), ("run", ["script", "structure"]), ("trace", ["script", "structure"]),
        ):
            function = getattr(running, name)
            self.assertEqual(function.__module__, "unseenrest.running")
            found = inspect.signature(function).parameters.values()
            self.assertEqual([(one.name, one.kind, one.default) for one in found],
                             [(one, either, inspect.Parameter.empty) for one in parameters])
        self.assertTrue(inspect.isgeneratorfunction(trace))

    def test_arguments_by_name(self):
        structure, script = Structure.free(["a"]), Script(["a"], (CUT,))
        self.assertIs(holds_in(test=("whole",), structure=structure), True)
        self.assertEqual(run(structure=structure, script=script).full, 0)
        self.assertEqual(len(list(trace(structure=structure, script=script))), 1)


if __name__ == "__main__":
    unittest.main()
