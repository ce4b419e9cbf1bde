import inspect
import unittest

from brute import ODD_VALUES, items_of, ranks_of, subsets
from samples import larger, small, with_splits
from unseenrest import structures
from unseenrest.errors import InvalidMark, UnknownName, UnlikeNames
from unseenrest.structures import Structure

PLANE = [0, 1, 1, 2, 1, 2, 2, 2]


def split(structure, part):
    """The names and the marks of a set of elements."""
    names = [name for name in structure.names() if name in part]
    return names, [mark for mark in range(structure.unseen) if mark in part]


def tried():
    return small() + with_splits(4, named=2)


class Base(unittest.TestCase):
    def check_raises(self, error, value, call, *given, **named):
        with self.assertRaises(error) as caught:
            call(*given, **named)
        self.assertIs(type(caught.exception), error)
        found = caught.exception.name if error is UnknownName else caught.exception.value
        self.assertEqual((type(found), found), (type(value), value))


class TestSimple(Base):
    def test_names_table_unseen_full_and_length(self):
        structure = Structure(["c", "a"], PLANE, unseen=1)
        self.assertEqual(structure.names(), ["a", "c"])
        self.assertEqual(structure.table(), PLANE)
        self.assertEqual((structure.unseen, structure.full, len(structure)), (1, 2, 2))
        bare = Structure([], [0])
        self.assertEqual((bare.names(), bare.table(), bare.unseen, bare.full, len(bare)), ([], [0], 0, 0, 0))

    def test_returned_lists_are_new(self):
        structure = Structure(["a", "b"], PLANE, unseen=1)
        for make in (structure.names, structure.table, structure.span):
            first = make()
            kept = list(first)
            self.assertIs(type(first), list)
            first.append(9)
            self.assertEqual(make(), kept)

    def test_full_and_unseen_cannot_be_assigned(self):
        structure = Structure(["a"], [0, 1])
        for name in ("full", "unseen"):
            with self.assertRaises(AttributeError):
                setattr(structure, name, 0)

    def test_the_repr(self):
        self.assertEqual(repr(Structure(["b", "a"], [0, 1, 1, 1])), "Structure(a b, 0 unseen, rank 1)")
        self.assertEqual(repr(Structure([], [0])), "Structure(-, 0 unseen, rank 0)")
        self.assertEqual(repr(Structure([], PLANE, unseen=3)), "Structure(-, 3 unseen, rank 2)")
        table = [min(2, bin(at).count("1")) for at in range(16)]
        self.assertEqual(repr(Structure(["zz", "a"], table, unseen=2)), "Structure(a zz, 2 unseen, rank 2)")
        self.assertEqual(str(Structure(["a"], [0, 0])), "Structure(a, 0 unseen, rank 0)")

    def test_names_in_a_structure(self):
        structure = Structure(["a", "abc"], PLANE, unseen=1)
        self.assertIs("a" in structure, True)
        self.assertIs("abc" in structure, True)
        for value in ODD_VALUES + ["b", "ab", "bc", b"a"]:
            self.assertIs(value in structure, value == "a", value)
            self.assertIs(value in Structure([], [0, 1], unseen=1), False, value)


class TestRank(Base):
    def test_positions_are_named_ones_ascending_then_unseen_ones(self):
        # The ranks of a, b, unseen 0 and unseen 1 alone are 1, 0, 1, 0, and a and unseen 0 are parallel.
        table = [1 if at & 5 else 0 for at in range(16)]
        structure = Structure(["b", "a"], table, unseen=2)
        self.assertEqual([structure.rank("a"), structure.rank("b")], [1, 0])
        self.assertEqual([structure.rank(marks=[0]), structure.rank(marks=[1])], [1, 0])
        self.assertEqual(structure.rank("a", "b", marks=[0, 1]), 1)

    def test_all_sets(self):
        for structure in tried() + larger()[:3]:
            ranks = ranks_of(structure)
            for part in subsets(items_of(structure)):
                names, marks = split(structure, part)
                self.assertEqual(structure.rank(*names, marks=marks), ranks[part])
                self.assertEqual(structure.rank(*reversed(names), *names, marks=tuple(reversed(marks))), ranks[part])

    def test_the_empty_set_and_all_elements(self):
        for structure in tried() + larger():
            self.assertEqual(structure.rank(), 0)
            self.assertEqual(structure.rank(marks=()), 0)
            marks = list(range(structure.unseen))
            self.assertEqual(structure.rank(*structure.names(), marks=marks), structure.full)

    def test_unknown_names(self):
        structure = Structure(["a", "c"], PLANE, unseen=1)
        for value in ODD_VALUES + ["b", "ac"]:
            if value != "a":
                for call in (structure.rank, structure.span):
                    self.check_raises(UnknownName, value, call, value)
                    self.check_raises(UnknownName, value, call, "c", value, "zz", "a")
                    self.check_raises(UnknownName, value, call, value, marks=[5, None])
                    self.check_raises(UnknownName, value, call, "a", value, marks=None)

    def test_invalid_marks(self):
        structure = Structure(["a"], PLANE, unseen=2)
        for value in ODD_VALUES + [2]:
            if type(value) is not int or value not in (0, 1):
                for call in (structure.rank, structure.span):
                    self.check_raises(InvalidMark, value, call, marks=[value])
                    self.check_raises(InvalidMark, value, call, "a", marks=[1, value, 0, 1])
                    self.check_raises(InvalidMark, value, call, "a", marks=(value, 1, 9))
                for call in (structure.behind, structure.gap, structure.spare):
                    self.check_raises(InvalidMark, value, call, value)
                    self.check_raises(InvalidMark, value, call, 1, value, 0, 1)
                    self.check_raises(InvalidMark, value, call, value, 1, 9)

    def test_marks_that_stand_there_again(self):
        structure = Structure(["a"], PLANE, unseen=2)
        for call in (structure.rank, structure.span):
            self.check_raises(InvalidMark, 0, call, marks=[0, 0])
            self.check_raises(InvalidMark, 1, call, "a", marks=(0, 1, 1, 0))
            self.check_raises(InvalidMark, 0, call, "a", marks=[1, 0, 0, 7])
            self.check_raises(InvalidMark, 7, call, "a", marks=[1, 0, 7, 0])
        for call in (structure.behind, structure.gap, structure.spare):
            self.check_raises(InvalidMark, 0, call, 0, 0)
            self.check_raises(InvalidMark, 1, call, 0, 1, 1, 0)
            self.check_raises(InvalidMark, False, call, 0, False, 0)

    def test_no_mark_is_valid_without_unseen_elements(self):
        structure = Structure(["a"], [0, 1])
        self.check_raises(InvalidMark, 0, structure.rank, "a", marks=[0])
        self.check_raises(InvalidMark, 0, structure.behind, 0)

    def test_marks_that_are_no_list(self):
        structure = Structure(["a"], PLANE, unseen=2)
        for value in (None, True, 0, 1, "", "0"):
            self.check_raises(InvalidMark, value, structure.rank, marks=value)
            self.check_raises(InvalidMark, value, structure.span, "a", marks=value)

    def test_marks_are_not_changed(self):
        structure = Structure(["a"], PLANE, unseen=2)
        marks = [1, 0]
        structure.rank("a", marks=marks)
        structure.span(marks=marks)
        self.assertEqual(marks, [1, 0])


class TestSpan(Base):
    def test_all_sets(self):
        for structure in tried() + larger()[:3]:
            ranks = ranks_of(structure)
            for part in subsets(items_of(structure)):
                names, marks = split(structure, part)
                expected = [name for name in structure.names() if ranks[part | {name}] == ranks[part]]
                self.assertEqual(structure.span(*names, marks=marks), expected)
                self.assertEqual(structure.span(*reversed(names), *names, marks=tuple(reversed(marks))), expected)

    def test_the_empty_set_spans_the_loops(self):
        self.assertEqual(Structure(["c", "b", "a"], [0, 0, 1, 1, 0, 0, 1, 1]).span(), ["a", "c"])
        self.assertEqual(Structure([], [0]).span(), [])


class TestLoopsAndBridges(Base):
    def test_by_their_definitions(self):
        for structure in tried() + larger():
            ranks = ranks_of(structure)
            everything = frozenset(items_of(structure))
            for name in structure.names():
                self.assertIs(structure.is_loop(name), ranks[frozenset([name])] == 0)
                self.assertIs(structure.is_bridge(name), ranks[everything - {name}] == structure.full - 1)

    def test_unseen_elements_count_for_bridges(self):
        self.assertIs(Structure(["a"], [0, 1, 1, 1], unseen=1).is_bridge("a"), False)
        self.assertIs(Structure(["a"], [0, 1, 1, 2], unseen=1).is_bridge("a"), True)

    def test_unknown_names(self):
        structure = Structure(["a", "c"], PLANE, unseen=1)
        for value in ODD_VALUES + ["b"]:
            if value != "a":
                self.check_raises(UnknownName, value, structure.is_loop, value)
                self.check_raises(UnknownName, value, structure.is_bridge, value)


class TestBehind(Base):
    def test_behind_gap_and_spare_by_their_definitions(self):
        for structure in tried() + larger()[:4]:
            ranks = ranks_of(structure)
            named = frozenset(structure.names())
            for marked in subsets(range(structure.unseen)):
                marks = sorted(marked, reverse=True)
                found = structure.behind(*marks)
                self.assertEqual((found.names(), found.unseen), (structure.names(), 0))
                self.assertEqual(ranks_of(found), {part: ranks[part | marked] - ranks[marked] for part in subsets(named)})
                self.assertEqual(structure.gap(*marks), structure.full - ranks[named | marked])
                self.assertEqual(structure.spare(*marks), len(marked) - ranks[marked])

    def test_no_marks_and_all_marks(self):
        structure = Structure(["a"], [0, 1, 1, 2, 0, 1, 1, 2], unseen=2)
        self.assertEqual((structure.behind().table(), structure.gap(), structure.spare()), ([0, 1], 1, 0))
        self.assertEqual((structure.behind(0, 1).table(), structure.gap(0, 1), structure.spare(0, 1)), ([0, 1], 0, 1))
        bare = Structure([], [0])
        self.assertEqual((bare.behind(), bare.gap(), bare.spare()), (bare, 0, 0))

    def test_it_is_a_structure_that_can_be_built(self):
        for structure in tried():
            found = structure.behind(*range(structure.unseen))
            self.assertEqual(Structure(found.names(), found.table()), found)


class TestQuotient(Base):
    def expected(self, quotient, other):
        above, below = ranks_of(other), ranks_of(quotient)
        return all(
            above[large] - below[large] >= above[part] - below[part]
            for large in above for part in above if part <= large
        )

    def test_by_its_definition(self):
        for count in range(4):
            for named in (0, count // 2, count):
                tables = with_splits(count, named=named)
                for one in tables:
                    for other in tables:
                        self.assertIs(one.is_quotient_of(other), self.expected(one, other))

    def test_four_elements(self):
        tables = with_splits(4, named=2)
        for at, one in enumerate(tables):
            for other in tables[at % 5::5]:
                self.assertIs(one.is_quotient_of(other), self.expected(one, other))

    def test_equal_ranks_of_single_elements_are_not_enough(self):
        free, plane = Structure.free(["a", "b", "c"]), Structure(["a", "b", "c"], PLANE)
        self.assertIs(plane.is_quotient_of(free), True)
        self.assertIs(free.is_quotient_of(plane), False)
        self.assertIs(plane.is_quotient_of(plane), True)

    def test_unlike_names(self):
        structure = Structure(["a", "b"], PLANE, unseen=1)
        others = [
            Structure(["a", "c"], PLANE, unseen=1), Structure(["a", "b"], [0, 1, 1, 2]), Structure(["a"], PLANE, unseen=2),
            Structure(["a", "b", "c"], PLANE), Structure([], [0]),
        ]
        for other in others + ODD_VALUES:
            with self.assertRaises(UnlikeNames):
                structure.is_quotient_of(other)


class TestInterface(Base):
    def test_parameters(self):
        either, rest = inspect.Parameter.POSITIONAL_OR_KEYWORD, inspect.Parameter.VAR_POSITIONAL
        keyword, none = inspect.Parameter.KEYWORD_ONLY, inspect.Parameter.empty
        marks = [("names", rest, none), ("marks", keyword, ())]
        expected = {
            "names": [], "table": [], "rank": marks, "span": marks,
            "is_loop": [("name", either, none)], "is_bridge": [("name", either, none)],
            "behind": [("marks", rest, none)], "gap": [("marks", rest, none)], "spare": [("marks", rest, none)],
            "is_quotient_of": [("other", either, none)],
        }
        structure = Structure(["a"], [0, 1])
        for name, parameters in expected.items():
            found = inspect.signature(getattr(structure, name)).parameters.values()
            self.assertEqual([(one.name, one.kind, one.default) for one in found], parameters)
        names = [("names", either, none)]
        for function, parameters in (
            (Structure.free, names), (Structure.uniform, names + [("rank", either, none)]), (structures.structures, names),
        ):
            found = inspect.signature(function).parameters.values()
            self.assertEqual([(one.name, one.kind, one.default) for one in found], parameters)

    def test_all_is_defined_where_it_is_listed(self):
        self.assertEqual(Structure.__module__, "unseenrest.structures")
        self.assertEqual(structures.structures.__module__, "unseenrest.structures")
        listed = "names table rank span is_loop is_bridge behind gap spare is_quotient_of free uniform unseen full MOST"
        for name in listed.split() + ["__init__", "__invert__", "__add__", "__eq__", "__contains__", "__len__", "__repr__"]:
            self.assertIn(name, vars(Structure))
        for name in ("free", "uniform"):
            self.assertIsInstance(vars(Structure)[name], staticmethod)
        for name in ("unseen", "full"):
            self.assertIsInstance(vars(Structure)[name], property)

    def test_arguments_by_name(self):
        structure = Structure(["a"], [0, 1])
        self.assertIs(structure.is_loop(name="a"), False)
        self.assertIs(structure.is_bridge(name="a"), True)
        self.assertIs(structure.is_quotient_of(other=structure), True)
        self.assertEqual(Structure.free(names=["a"]), structure)
        self.assertEqual(Structure.uniform(rank=1, names=["a"]), structure)
        self.assertEqual(len(list(structures.structures(names=["a"]))), 2)


if __name__ == "__main__":
    unittest.main()
