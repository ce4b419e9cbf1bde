import inspect
import random
import unittest

from brute import ODD_VALUES, ranks_of, subsets
from framing import all_frames, built_ranks, is_quotient, order, shown, told
from samples import larger, small, with_splits
from scripting import CUT, DUAL, WHOLE, Base, both, repeat
from stepping import RIGHT_COMPOUNDS, WRONG_STEPS, fitting_bases, fitting_group
from test_running import drawn_script, tried
from unseenrest import frames as module
from unseenrest.changes import changed
from unseenrest.errors import DuplicateName, InvalidFrame, InvalidMark, InvalidName, InvalidNumber, InvalidStep
from unseenrest.errors import TooMany, UnknownName, UnlikeNames
from unseenrest.frames import Frame, frame_of, frames, led
from unseenrest.running import run
from unseenrest.scripts import Script
from unseenrest.structures import Structure, structures

SIX = ["a", "b", "c", "d", "e", "f"]
LONE_ODD = [value for value in ODD_VALUES if value != "a"]


def plain_frame(structure, gaps=(0, 0), spares=(0, 0)):
    return Frame(structure, structure, structure, gaps=gaps, spares=spares)


def some_frames():
    """Frames with all kinds of structures and small counts."""
    return all_frames([], 2, 2) + all_frames(["a"], 2, 2) + all_frames(["b", "a"], 1, 1)


class TestFrame(Base):
    def test_what_is_passed_is_told(self):
        one, none = Structure.free(["b", "a"]), Structure.uniform(["a", "b"], 1)
        frame = Frame(one, one, none, gaps=(3, 1), spares=(2, 5))
        self.assertEqual((frame.first, frame.middle, frame.last), (one, one, none))
        self.assertEqual((frame.gaps, frame.spares, frame.names()), ((3, 1), (2, 5), ["a", "b"]))
        self.assertEqual((frame.unseen, frame.marked), (2 - 1 + 3 + 5, 0 + 2 + 3 - 1))
        frame = Frame(one, none, none, gaps=(3, 1), spares=(2, 5))
        self.assertEqual((frame.unseen, frame.marked), (9, 5))
        frame = Frame(one, none, none)
        self.assertEqual((frame.gaps, frame.spares, frame.unseen, frame.marked), ((0, 0), (0, 0), 1, 1))

    def test_names_are_new(self):
        frame = plain_frame(Structure.free(["a"]))
        frame.names().append("b")
        self.assertEqual(frame.names(), ["a"])

    def test_quotients_one_behind_the_other(self):
        for names in ([], ["a"], ["a", "b"]):
            kinds = list(structures(names))
            for first in kinds:
                for middle in kinds:
                    for last in kinds:
                        if is_quotient(middle, first) and is_quotient(last, middle):
                            self.assertEqual(Frame(first, middle, last).middle, middle)
                        else:
                            self.check_raises(InvalidFrame, {}, Frame, first, middle, last)

    def test_three_names(self):
        drawn = random.Random(4)
        kinds = list(structures(["a", "b", "c"]))
        free, none = kinds[-1], kinds[0]
        for first in kinds:
            for other in drawn.sample(kinds, 6):
                if is_quotient(other, first):
                    self.assertEqual(Frame(free, first, other).last, other)
                    self.assertEqual(Frame(first, other, none).first, first)
                else:
                    self.check_raises(InvalidFrame, {}, Frame, free, first, other)
                    self.check_raises(InvalidFrame, {}, Frame, first, other, none)

    def test_structures_with_other_names_or_unseen_elements(self):
        one, other, longer = Structure.free(["a"]), Structure.free(["b"]), Structure.free(["a", "b"])
        unseen = Structure(["a"], [0, 1, 1, 2], unseen=1)
        for wrong in (other, longer, Structure([], [0]), unseen):
            for triple in ((wrong, one, one), (one, wrong, one), (one, one, wrong), (one, wrong, wrong)):
                self.check_raises(InvalidFrame, {}, Frame, *triple)
        self.check_raises(InvalidFrame, {}, Frame, unseen, unseen, unseen)
        bare = Structure([], [0, 1], unseen=1)
        self.check_raises(InvalidFrame, {}, Frame, bare, bare, bare)

    def test_values_that_are_no_structures(self):
        one = Structure.free(["a"])
        for value in ODD_VALUES + [plain_frame(one), ["a"], [0, 1]]:
            for triple in ((value, one, one), (one, value, one), (one, one, value), (value, value, value)):
                self.check_raises(InvalidFrame, {}, Frame, *triple)

    def test_counts(self):
        one = Structure.free(["a"])
        for first in range(-1, 4):
            for second in range(-1, 4):
                pair = (first, second)
                if 0 <= second <= first:
                    self.assertEqual(Frame(one, one, one, gaps=pair).gaps, pair)
                else:
                    self.check_raises(InvalidFrame, {}, Frame, one, one, one, gaps=pair)
                if 0 <= first <= second:
                    self.assertEqual(Frame(one, one, one, spares=pair).spares, pair)
                else:
                    self.check_raises(InvalidFrame, {}, Frame, one, one, one, spares=pair)

    def test_values_that_are_no_pairs_of_numbers(self):
        one = Structure.free(["a"])
        wrong = ODD_VALUES + [[0, 0], [1, 0], (0,), (0, 0, 0), "00", (0, None), (None, 0), (True, 0), (0, False), (1, True),
                              (False, False), ("1", "0"), ((1,), (0,)), ((1, 0),), ([1], [0]), (1, (0,)), {0: 1, 1: 0}]
        for value in wrong:
            self.check_raises(InvalidFrame, {}, Frame, one, one, one, gaps=value)
            self.check_raises(InvalidFrame, {}, Frame, one, one, one, spares=value)

    def test_great_counts(self):
        one, none = Structure.free(["a"]), Structure.uniform(["a"], 0)
        frame = Frame(one, none, none, gaps=(1000000, 5), spares=(7, 1000000))
        self.assertEqual((frame.unseen, frame.marked), (2000001, 1 + 7 + 1000000 - 5))
        self.assertEqual(frame.rank("a"), 1 + 1000000 - 5)
        self.assertEqual(plain_frame(one, gaps=(3000000, 2000000)).gaps, (3000000, 2000000))
        self.assertEqual(repr(frame), "Frame(a, 2000001 unseen, 1000003 marked)")

    def test_properties_cannot_be_assigned(self):
        frame = plain_frame(Structure([], [0]))
        for name in ("first", "middle", "last", "gaps", "spares", "unseen", "marked"):
            with self.assertRaises(AttributeError):
                setattr(frame, name, 0)

    def test_the_repr(self):
        one, none = Structure.free(["b", "a"]), Structure.uniform(["b", "a"], 0)
        self.assertEqual(repr(Frame(one, one, none, gaps=(1, 0))), "Frame(a b, 3 unseen, 1 marked)")
        self.assertEqual(repr(plain_frame(Structure([], [0]))), "Frame(-, 0 unseen, 0 marked)")

    def test_equal(self):
        one, none = Structure.free(["a"]), Structure.uniform(["a"], 0)
        frame = Frame(one, one, none, gaps=(1, 0), spares=(0, 1))
        self.assertTrue(frame == Frame(Structure(["a"], [0, 1]), one, none, gaps=(1, 0), spares=(0, 1)))
        self.assertFalse(frame != Frame(one, one, none, gaps=(1, 0), spares=(0, 1)))
        for other in (
            Frame(one, one, one, gaps=(1, 0), spares=(0, 1)), Frame(one, none, none, gaps=(1, 0), spares=(0, 1)),
            Frame(none, none, none, gaps=(1, 0), spares=(0, 1)), Frame(one, one, none, gaps=(1, 1), spares=(0, 1)),
            Frame(one, one, none, gaps=(2, 0), spares=(0, 1)), Frame(one, one, none, gaps=(1, 0), spares=(1, 1)),
            Frame(one, one, none, gaps=(1, 0), spares=(0, 2)), plain_frame(Structure.free(["b"])),
        ):
            self.assertFalse(frame == other)
            self.assertTrue(frame != other)
        self.assertFalse(Frame(one, none, none) == Frame(none, none, none))
        self.assertFalse(Frame(one, one, none) == Frame(one, none, none))
        for value in ODD_VALUES + [one, repr(frame), Frame]:
            self.assertIs(frame == value, False)
            self.assertIs(frame != value, True)


class TestBuilt(Base):
    def test_set_by_set(self):
        for frame in some_frames():
            built = frame.built()
            self.assertEqual((built.names(), built.unseen), (frame.names(), frame.unseen))
            self.assertEqual(ranks_of(built), built_ranks(frame))
            self.assertEqual(frame_of(built, *range(frame.marked)), frame)

    def test_it_is_a_structure_that_can_be_built(self):
        for frame in some_frames()[::3]:
            built = frame.built()
            self.assertEqual(Structure(built.names(), built.table(), unseen=built.unseen), built)

    def test_three_names(self):
        for frame in all_frames(["a", "b", "c"], 1, 1)[::17]:
            built = frame.built()
            self.assertEqual(ranks_of(built), built_ranks(frame))
            self.assertEqual(frame_of(built, *range(frame.marked)), frame)

    def test_the_order_of_the_unseen_elements(self):
        one, none = Structure.free(["a", "b"]), Structure.uniform(["a", "b"], 0)
        frame = Frame(one, Structure.uniform(["a", "b"], 1), none, gaps=(3, 2), spares=(1, 3))
        built = frame.built()
        self.assertEqual((built.unseen, frame.marked, built.full), (8, 3, 2 + 3))
        loops = [mark for mark in range(8) if built.rank(marks=[mark]) == 0]
        everything = list(range(8))
        bridges = [mark for mark in everything
                   if built.rank("a", "b", marks=[other for other in everything if other != mark]) < built.full]
        self.assertEqual((loops, bridges), ([1, 4, 5], [2, 6, 7]))

    def test_the_most_unseen_elements_and_elements(self):
        one, six = Structure.free(["a"]), Structure.free(SIX)
        none = Structure.uniform(SIX, 0)
        self.assertEqual(plain_frame(one, gaps=(9, 4)).built().unseen, 9)
        self.assertEqual(plain_frame(one, gaps=(4, 0), spares=(1, 5)).built().unseen, 9)
        unseen, whole = {"subject": "unseen", "most": 9}, {"subject": "elements", "most": 12}
        self.check_raises(TooMany, unseen, plain_frame(one, gaps=(10, 4)).built)
        self.check_raises(TooMany, unseen, plain_frame(one, gaps=(5, 0), spares=(0, 5)).built)
        self.check_raises(TooMany, unseen, plain_frame(six, gaps=(5, 0), spares=(0, 5)).built)
        self.check_raises(TooMany, unseen, plain_frame(one, gaps=(1000000, 0), spares=(0, 1000000)).built)
        self.check_raises(TooMany, whole, Frame(six, none, none, gaps=(1, 0)).built)
        self.check_raises(TooMany, whole, plain_frame(six, spares=(0, 7)).built)
        self.assertEqual(Frame(six, none, none).built().unseen, 6)
        self.assertEqual(plain_frame(Structure.free(["a", "b", "c"]), spares=(2, 9)).built().unseen, 9)


class TestRank(Base):
    def test_with_the_marked_elements(self):
        for frame in some_frames():
            built = frame.built()
            for part in subsets(frame.names()):
                self.assertEqual(frame.rank(*part), built.rank(*part, marks=list(range(frame.marked))))

    def test_names_in_any_order_and_more_than_once(self):
        frame = plain_frame(Structure(["a", "b"], [0, 1, 1, 1]), gaps=(2, 0), spares=(3, 3))
        self.assertEqual([frame.rank(), frame.rank("b", "a", "b"), frame.rank("a", "a")], [2, 3, 3])

    def test_unknown_names(self):
        frame = plain_frame(Structure.free(["a", "c"]))
        for value in LONE_ODD + ["b"]:
            self.check_raises(UnknownName, {"name": value}, frame.rank, "c", value, "d")


class TestFrameOf(Base):
    def test_by_its_definition(self):
        for structure in small() + with_splits(4, named=2) + with_splits(4, named=1)[::4] + larger()[:3]:
            for marked in subsets(range(structure.unseen)):
                marks = sorted(marked, reverse=True)
                frame = frame_of(structure, *marks)
                self.assertEqual(told(frame), shown(structure, marked))
                self.assertEqual((frame.unseen, frame.marked), (structure.unseen, len(marks)))
                self.assertEqual(frame, Frame(frame.first, frame.middle, frame.last, gaps=frame.gaps, spares=frame.spares))

    def test_no_marks(self):
        structure = Structure(["a"], [0, 1, 1, 1], unseen=1)
        for value in ODD_VALUES + [1, -1, 2]:
            if type(value) is not int or value != 0:
                self.check_raises(InvalidMark, {"value": value}, frame_of, structure, value)
                self.check_raises(InvalidMark, {"value": value}, frame_of, structure, 0, value, None)
        self.check_raises(InvalidMark, {"value": 0}, frame_of, structure, 0, 0)
        self.check_raises(InvalidMark, {"value": 0}, frame_of, Structure(["a"], [0, 1]), 0)


def steps_for(drawn, names):
    """A step of each kind for structures with these names, and more of some."""
    steps = [DUAL, CUT, ("top", "q"), ("top", "aa")]
    for _ in range(2):
        steps += [("extend", drawn.choice(["q", "aa"]), fitting_group(drawn, names))]
        steps += [("truncate", fitting_group(drawn, names)), ("unite", fitting_bases(drawn, names))]
    for name in names:
        steps += [("delete", name), ("contract", name), ("rename", name, name), ("rename", name, "q")]
    return steps


class TestAfter(Base):
    def check_after(self, structure, steps):
        for step in steps:
            behind = changed(structure, step)
            for marked in subsets(range(structure.unseen)):
                others = set(range(structure.unseen)) - marked
                expected = frame_of(behind, *(others if step == DUAL else marked))
                self.assertEqual(frame_of(structure, *marked).after(step), expected, (structure.table(), marked, step))

    def test_against_the_frame_of_the_changed_structure(self):
        drawn = random.Random(6)
        for structure in small() + with_splits(4, named=2) + with_splits(4, named=3) + with_splits(4, named=1):
            self.check_after(structure, steps_for(drawn, structure.names()))

    def test_against_the_structure_to_which_a_frame_is_built(self):
        drawn = random.Random(7)
        for frame in some_frames() + all_frames(["a", "b", "c"], 1, 1)[::11]:
            built = frame.built()
            marks, others = range(frame.marked), range(frame.marked, frame.unseen)
            for step in steps_for(drawn, frame.names()):
                expected = frame_of(changed(built, step), *(others if step == DUAL else marks))
                self.assertEqual(frame.after(step), expected, (frame.gaps, frame.spares, step))

    def test_it_is_a_frame(self):
        drawn = random.Random(9)
        for frame in some_frames()[::5]:
            for step in steps_for(drawn, frame.names()):
                found = frame.after(step)
                same = Frame(found.first, found.middle, found.last, gaps=found.gaps, spares=found.spares)
                self.assertEqual(found, same)

    def test_great_counts_change_like_small_ones(self):
        one, none = Structure.free(["a"]), Structure.uniform(["a"], 0)
        frame = Frame(one, one, none, gaps=(1000000, 999998), spares=(500, 1000000))
        found = frame.after(CUT)
        self.assertEqual((found.first, found.middle, found.last), (one, one, none))
        self.assertEqual((found.gaps, found.spares), ((999999, 999997), (500, 1000001)))
        found = frame.after(("top", "p"))
        self.assertEqual((found.gaps, found.spares), ((999999, 999997), (500, 1000000)))
        self.assertEqual((found.first, found.last.is_loop("p")), (Structure.free(["a", "p"]), True))
        found = frame.after(DUAL)
        self.assertEqual((found.gaps, found.spares), ((1000000, 500), (999998, 1000000)))
        self.assertEqual(frame.after(("contract", "a")).spares, (500, 1000001))
        self.assertEqual(frame.after(("delete", "a")).gaps, (1000001, 999999))

    def test_frames_never_change(self):
        frame = plain_frame(Structure.free(["a"]), gaps=(2, 1), spares=(1, 2))
        for step in (DUAL, CUT, ("top", "p"), ("delete", "a"), ("contract", "a"), ("rename", "a", "b")):
            frame.after(step)
        self.assertEqual(frame, plain_frame(Structure.free(["a"]), gaps=(2, 1), spares=(1, 2)))

    def test_no_step(self):
        frame = plain_frame(Structure.free(["a"]))
        for value in WRONG_STEPS + RIGHT_COMPOUNDS:
            self.check_raises(InvalidStep, {"path": ()}, frame.after, value)

    def test_unknown_names(self):
        frame = plain_frame(Structure.free(["a", "c"]), gaps=(1, 0))
        for step, name in (
            (("delete", "b"), "b"), (("contract", "b"), "b"), (("extend", "a", ("a", "b", "d")), "b"),
            (("truncate", ("a", "b", "d")), "b"), (("unite", (("c",), ("e",), ("b",))), "e"), (("rename", "b", "a"), "b"),
            (("rename", "b", "b"), "b"),
        ):
            self.check_raises(UnknownName, {"name": name}, frame.after, step)

    def test_duplicate_names_and_more_than_six(self):
        for gaps in ((0, 0), (1, 0), (1, 1)):
            frame, six = plain_frame(Structure.free(["a", "c"]), gaps), plain_frame(Structure.free(SIX), gaps)
            for step in (("extend", "c", ("a", "c")), ("top", "c"), ("rename", "a", "c")):
                self.check_raises(DuplicateName, {"name": "c"}, frame.after, step)
                self.check_raises(DuplicateName, {"name": "c"}, six.after, step)
            for step in (("extend", "g", ("a",)), ("top", "g")):
                self.check_raises(TooMany, {"subject": "names", "most": 6}, six.after, step)
            self.check_raises(UnknownName, {"name": "g"}, six.after, ("extend", "a", ("g",)))
            five = plain_frame(Structure.free(SIX[:5]), gaps)
            self.assertEqual([len(five.after(step).names()) for step in (("extend", "g", ()), ("top", "g"))], [6, 6])

    def test_frames_with_more_elements_than_a_structure(self):
        frame = plain_frame(Structure.free(["a", "b", "c"]), gaps=(9, 9), spares=(9, 9))
        self.assertEqual(frame.after(("extend", "p", ())).names(), ["a", "b", "c", "p"])
        self.assertEqual(frame.after(("top", "p")).gaps, (8, 8))


class TestFrames(Base):
    def test_against_all_triples_and_in_order(self):
        for names, most in (([], 4), (["a"], 3), (["b", "a"], 2)):
            for gap in range(most + 1):
                for spare in range(most + 1):
                    found = list(frames(names, gap=gap, spare=spare))
                    expected = all_frames(names, gap, spare)
                    self.assertEqual([told(frame) for frame in found], [told(frame) for frame in expected])

    def test_three_names(self):
        found = list(frames(["c", "a", "b"], gap=1, spare=1))
        self.assertEqual([told(frame) for frame in found], [told(frame) for frame in all_frames(["a", "b", "c"], 1, 1)])
        self.assertEqual(len(list(frames(["c", "a", "b"]))), 176)

    def test_the_order_by_its_key(self):
        for names in ([], ["a"], ["a", "b"]):
            keys = [order(frame) for frame in frames(names, gap=4, spare=4)]
            self.assertEqual(keys, sorted(keys))
            self.assertEqual(len({repr(key) for key in keys}), len(keys))

    def test_the_counts_of_frames(self):
        self.assertEqual(len(list(frames([]))), 1)
        self.assertEqual(len(list(frames([], gap=4, spare=4))), 15 * 15)
        self.assertEqual(len(list(frames(["a"]))), 4)
        self.assertEqual(len(list(frames(["a"], gap=4))), 4 * 15)
        self.assertEqual(len(list(frames(["a"], spare=4))), 4 * 15)

    def test_errors_of_names(self):
        for value in LONE_ODD:
            self.check_raises(InvalidName, {"value": value}, list, frames(["a", value, "a"], gap=9))
        self.check_raises(DuplicateName, {"name": "b"}, list, frames(["a", "b", "b", "a"], gap=9))
        self.check_raises(TooMany, {"subject": "names", "most": 3}, list, frames(["a", "b", "c", "d"], gap=9))

    def test_errors_of_numbers(self):
        for value in ODD_VALUES + [5, -1, "4", (0,)]:
            if type(value) is not int or not 0 <= value <= 4:
                self.check_raises(InvalidNumber, {"value": value}, list, frames([], gap=value, spare=None))
                self.check_raises(InvalidNumber, {"value": value}, list, frames([], gap=4, spare=value))

    def test_a_generator_raises_when_its_first_item_is_asked_for(self):
        found = frames(["a", "b", "c", "d"], gap=5)
        self.check_raises(TooMany, {"subject": "names", "most": 3}, next, found)
        self.assertEqual(next(frames(["a"])), plain_frame(Structure.uniform(["a"], 0)))


class TestLed(Base):
    def test_against_the_frame_of_the_structure_behind(self):
        drawn = random.Random(12)
        for structure in tried(drawn) * 3:
            script = drawn_script(drawn, structure.names())
            behind = run(script, structure)
            for marked in subsets(range(structure.unseen)):
                others = set(range(structure.unseen)) - marked
                expected = frame_of(behind, *(others if script.turned else marked))
                self.assertEqual(led(script, frame_of(structure, *marked)), expected, (script.text(), structure.table()))

    def test_against_the_structures_to_which_frames_are_built(self):
        drawn = random.Random(13)
        for frame in some_frames():
            script = drawn_script(drawn, frame.names())
            try:
                behind = run(script, frame.built())
            except TooMany:
                continue
            marks = range(frame.marked, frame.unseen) if script.turned else range(frame.marked)
            self.assertEqual(led(script, frame), frame_of(behind, *marks), script.text())

    def test_tests_look_at_first(self):
        one, none = Structure.free(["a"]), Structure.uniform(["a"], 0)
        for test, gaps, holds in (
            (WHOLE, (0, 0), True), (WHOLE, (1, 0), False), (("rank", ("a",), 1), (0, 0), True),
            (("rank", ("a",), 2), (0, 0), False), (("spans", (), "a"), (0, 0), False), (("spans", ("a",), "a"), (1, 1), True),
        ):
            frame = Frame(one, none, none, gaps=gaps)
            script = Script(["a"], (both(test, (("rename", "a", "b"),), (("delete", "a"), ("extend", "b", ()))),))
            self.assertEqual(led(script, frame).first, Structure.uniform(["b"], 1 if holds else 0))

    def test_repeats_and_no_steps(self):
        frame = plain_frame(Structure.free(["a"]), gaps=(3, 2), spares=(1, 1))
        self.assertEqual(led(Script(["a"]), frame), frame)
        self.assertEqual(led(Script(["a"], (repeat(3, CUT), repeat(4))), frame).gaps, (0, 0))
        self.assertEqual(led(Script(["a"], (repeat(3, CUT),)), frame), frame.after(CUT).after(CUT).after(CUT))
        script = Script(["a"], (("use", "x"), DUAL), pieces={"x": (CUT, ("top", "p"))})
        self.assertEqual(led(script, frame), frame.after(CUT).after(("top", "p")).after(DUAL))

    def test_unlike_names(self):
        script = Script(["b", "a"], (CUT,))
        others = [plain_frame(Structure.free(names)) for names in ([], ["a"], ["a", "c"], ["a", "b", "c"])]
        for frame in others + ODD_VALUES + [Structure.free(["a", "b"])]:
            self.check_raises(UnlikeNames, {}, led, script, frame)

    def test_frames_with_more_elements_than_a_structure(self):
        frame = plain_frame(Structure.free(["a", "b", "c"]), gaps=(9, 5), spares=(9, 9))
        script = Script(["a", "b", "c"], (("top", "p"), ("extend", "q", ()), ("top", "r")))
        self.assertEqual((led(script, frame).gaps, led(script, frame).unseen), ((7, 3), 18))


class TestInterface(unittest.TestCase):
    def test_parameters(self):
        either, keyword = inspect.Parameter.POSITIONAL_OR_KEYWORD, inspect.Parameter.KEYWORD_ONLY
        rest, none = inspect.Parameter.VAR_POSITIONAL, inspect.Parameter.empty
        own = ("self", either, none)
        expected = [
            (Frame.__init__, [own] + [(name, either, none) for name in ("first", "middle", "last")]
             + [("gaps", keyword, (0, 0)), ("spares", keyword, (0, 0))]),
            (Frame.names, [own]), (Frame.built, [own]), (Frame.rank, [own, ("names", rest, none)]),
            (Frame.after, [own, ("step", either, none)]),
            (frame_of, [("structure", either, none), ("marks", rest, none)]),
            (frames, [("names", either, none), ("gap", keyword, 0), ("spare", keyword, 0)]),
            (led, [("script", either, none), ("frame", either, none)]),
        ]
        for function, parameters in expected:
            self.assertEqual(function.__module__, "unseenrest.frames")
            found = inspect.signature(function).parameters.values()
            self.assertEqual([(one.name, one.kind, one.default) for one in found], parameters)
        self.assertTrue(inspect.isgeneratorfunction(module.frames))

    def test_all_is_defined_where_it_is_listed(self):
        for name in "names built rank after __init__ __eq__ __repr__".split():
            self.assertIn(name, vars(Frame))
        for name in "first middle last gaps spares unseen marked".split():
            self.assertIsInstance(vars(Frame)[name], property)

    def test_arguments_by_name(self):
        one = Structure.free(["a"])
        frame = Frame(last=one, middle=one, first=one, spares=(0, 1), gaps=(1, 0))
        self.assertEqual(frame.after(step=DUAL).gaps, (1, 0))
        self.assertEqual(led(frame=frame, script=Script(["a"])), frame)
        self.assertEqual(len(list(frames(names=["a"], spare=1, gap=1))), 36)


if __name__ == "__main__":
    unittest.main()
