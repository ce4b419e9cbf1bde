import inspect
import random
import unittest
from itertools import combinations, permutations, product

from brute import ODD_VALUES, exchanges, first_break, items_of, positions_of, ranks_of, subsets
from changing import base_rank
from stepping import BASES, NO_BASES
from unseenrest import building
from unseenrest.building import from_bases, from_columns, is_bases
from unseenrest.errors import DuplicateName, InvalidBases, InvalidName, InvalidNumber, TooMany, UnknownName
from unseenrest.structures import Structure, structures

SIX = ["a", "b", "c", "d", "e", "f"]
LONE_ODD = [value for value in ODD_VALUES if value != "a"]


class Base(unittest.TestCase):
    def check_raises(self, error, attributes, call, *given, **named):
        with self.assertRaises(error) as caught:
            call(*given, **named)
        self.assertIs(type(caught.exception), error)
        for name, value in attributes.items():
            found = getattr(caught.exception, name)
            self.assertEqual((type(found), found), (type(value), value))


def families(names, size):
    """All tuples of one or more different groups with so many names, each in one order."""
    groups = list(combinations(names, size))
    return [family for many in range(1, len(groups) + 1) for family in combinations(groups, many)]


def greatest_sets(structure):
    """The groups whose rank is their number of names and the full rank."""
    groups = combinations(structure.names(), structure.full)
    return {group for group in groups if structure.rank(*group) == structure.full}


def table_of_family(names, family):
    """The greatest numbers of names in common, by the indexes of the sets of these names."""
    sets = [frozenset(names[at] for at in positions_of(index)) for index in range(2 ** len(names))]
    return [base_rank(family, part) for part in sets]


class TestIsBases(Base):
    def test_just_those_that_are_the_greatest_sets_of_a_structure(self):
        known = [greatest_sets(structure) for structure in structures(["a", "b", "c"])]
        for size in range(4):
            for family in families("abc", size):
                self.assertIs(is_bases(family), set(family) in known, family)

    def test_four_names(self):
        for size in range(5):
            for family in families("abcd", size):
                self.assertIs(is_bases(family), first_break(table_of_family("abcd", family)) is None, family)

    def test_drawn_groups_of_six_names(self):
        drawn = random.Random(5)
        found = {True: 0, False: 0}
        for size, most in ((1, 6), (2, 15), (3, 20), (4, 15), (5, 6)):
            groups = list(combinations(SIX, size))
            for _ in range(150):
                # Most drawn families of many groups and of very few are no bases: so some lack just a few groups.
                many = drawn.choice([1, 2, most - 2, most - 1, most, drawn.randrange(1, most + 1)])
                family = tuple(drawn.sample(groups, max(1, many)))
                expected = exchanges([frozenset(group) for group in family])
                self.assertIs(is_bases(family), expected, family)
                found[expected] += 1
        self.assertGreater(min(found.values()), 100)

    def test_the_order_of_the_groups_means_nothing(self):
        for family in permutations([("a", "b"), ("a", "c"), ("b", "c")]):
            self.assertIs(is_bases(family), True)
        for family in permutations([("a", "b"), ("a", "c"), ("b", "d"), ("c", "d")]):
            self.assertIs(is_bases(family), True)
        for family in permutations([("a", "b"), ("b", "c"), ("c", "d")]):
            self.assertIs(is_bases(family), False)

    def test_edges(self):
        for value in BASES:
            self.assertIs(is_bases(value), True, value)
        self.assertIs(is_bases(tuple(combinations(SIX, 3))), True)
        self.assertIs(is_bases(tuple((name,) for name in SIX)), True)

    def test_no_bases(self):
        for value, at in NO_BASES:
            self.assertIs(is_bases(value), False, value)
        for value in ODD_VALUES:
            self.assertIs(is_bases(value), False, value)


class TestFromBases(Base):
    def check_structure(self, names, bases):
        structure = from_bases(names, bases)
        self.assertEqual((structure.names(), structure.unseen), (sorted(names), 0))
        self.assertEqual(ranks_of(structure), {part: base_rank(bases, part) for part in subsets(names)})
        self.assertEqual(Structure(names, structure.table()), structure)

    def test_the_ranks_by_their_definition(self):
        for size in range(4):
            for family in families("bcd", size):
                if is_bases(family):
                    for names in (["d", "c", "b"], ["c", "bb", "d", "e", "b", "a"]):
                        self.check_structure(names, family)

    def test_it_has_just_these_bases(self):
        for structure in structures(["c", "b", "a"]):
            groups = sorted(greatest_sets(structure))
            self.assertEqual(from_bases(["a", "b", "c"], tuple(groups)), structure)
            self.assertEqual(from_bases(("a", "b", "c"), tuple(reversed(groups))), structure)

    def test_no_names_and_six_names(self):
        self.check_structure([], ((),))
        self.check_structure(SIX, ((),))
        self.check_structure(SIX, (tuple(SIX),))
        self.check_structure(SIX, tuple(combinations(SIX, 3)))
        self.assertEqual(from_bases(SIX, tuple(combinations(SIX, 2))), Structure.uniform(SIX, 2))

    def test_names_that_stand_in_none_are_loops(self):
        structure = from_bases(["a", "b", "c", "d"], (("b",), ("d",)))
        self.assertEqual([structure.is_loop(name) for name in structure.names()], [True, False, True, False])
        self.assertEqual(structure.rank("b", "d"), 1)

    def test_errors_of_names(self):
        for value in LONE_ODD:
            self.check_raises(InvalidName, {"value": value}, from_bases, ["a", value, "a"], None)
        self.check_raises(DuplicateName, {"name": "b"}, from_bases, ["a", "b", "b", "a"], None)
        self.check_raises(TooMany, {"subject": "names", "most": 6}, from_bases, SIX + ["g"], None)
        self.check_raises(InvalidName, {"value": None}, from_bases, None, ())

    def test_errors_of_bases(self):
        for value, at in NO_BASES:
            self.check_raises(InvalidBases, {"at": at}, from_bases, ["x"], value)
            self.check_raises(InvalidBases, {"at": at}, from_bases, SIX, value)

    def test_seven_names_are_looked_at_behind_the_forms(self):
        groups = tuple((name,) for name in SIX + ["g"])
        self.check_raises(InvalidBases, {"at": 8}, from_bases, [], groups + (("h",), ("a",)))
        self.check_raises(InvalidBases, {"at": 8}, from_bases, [], groups + (("h",), ()))
        self.check_raises(InvalidBases, {"at": 8}, from_bases, [], groups + (("h",), None))
        self.check_raises(InvalidBases, {"at": 8}, from_bases, [], groups + (("h",),))

    def test_many_groups(self):
        groups = tuple(combinations(SIX + ["g", "h", "i"], 2))
        self.check_raises(InvalidBases, {"at": 36}, from_bases, SIX, groups)

    def test_the_first_name_that_is_not_given(self):
        bases = (("b", "d"), ("a", "b"), ("c", "d"), ("a", "c"))
        self.check_raises(UnknownName, {"name": "b"}, from_bases, [], bases)
        self.check_raises(UnknownName, {"name": "d"}, from_bases, ["b"], bases)
        self.check_raises(UnknownName, {"name": "a"}, from_bases, ["b", "d", "e"], bases)
        self.check_raises(UnknownName, {"name": "c"}, from_bases, ["b", "d", "a"], bases)
        self.check_structure(["b", "d", "a", "c"], bases)

    def test_arguments_stay(self):
        names = ["b", "a"]
        from_bases(names, (("a",),))
        self.assertEqual(names, ["b", "a"])


def rank_modulo(columns, modulus):
    """The rank of columns: how often the modulus divides the number of their sums into a power."""
    sums = set()
    for factors in product(range(modulus), repeat=len(columns)):
        rows = zip(*columns) if columns else ()
        sums.add(tuple(sum(f * n for f, n in zip(factors, row)) % modulus for row in rows))
    rank, power = 0, 1
    while power < len(sums):
        rank, power = rank + 1, power * modulus
    return rank


class TestFromColumns(Base):
    def check_structure(self, columns, modulus, unseen):
        structure = from_columns(columns, modulus=modulus, unseen=unseen)
        self.assertEqual((structure.names(), structure.unseen), (sorted(columns), len(unseen)))
        self.assertEqual(items_of(structure), sorted(columns) + list(range(len(unseen))))
        for part, rank in ranks_of(structure).items():
            chosen = [columns[item] if isinstance(item, str) else unseen[item] for item in part]
            self.assertEqual(rank, rank_modulo(chosen, modulus), (columns, modulus, unseen, part))

    def test_drawn_columns_for_each_modulus(self):
        drawn = random.Random(3)
        for modulus, elements in ((2, 6), (3, 5), (5, 4), (7, 3)):
            for _ in range(12):
                rows = drawn.randrange(1, 5)
                columns = [[drawn.randrange(-20, 21) for _ in range(rows)] for _ in range(elements)]
                names = drawn.sample(SIX, drawn.randrange(elements + 1))
                self.check_structure(dict(zip(names, columns)), modulus, columns[len(names):])

    def test_each_modulus_gives_its_own_ranks(self):
        # Modulo each of them another pair of these columns depends on one another.
        columns = {"a": [1, 1], "b": [1, 3], "c": [1, 4], "d": [1, 6], "e": [1, 8]}
        for modulus in (2, 3, 5, 7):
            structure = from_columns(columns, modulus=modulus)
            for one, other in combinations(columns, 2):
                same = (columns[one][1] - columns[other][1]) % modulus == 0
                self.assertEqual(structure.rank(one, other), 1 if same else 2)

    def test_the_modulus_is_two_if_none_is_passed(self):
        self.assertEqual(from_columns({"a": [2, 4], "b": [1, 3]}).table(), [0, 0, 1, 1])
        self.assertEqual(from_columns({"a": [2, 4], "b": [1, 3]}, modulus=3).table(), [0, 1, 1, 2])

    def test_numbers_below_zero_and_above_the_modulus(self):
        self.check_structure({"a": [-1, 8], "b": [1, -1], "c": [1000000, -1000000]}, 7, ())
        self.assertEqual(from_columns({"a": [-3, 6], "b": [-1, 2], "c": [-2, -5]}, modulus=3).table(),
                         [0, 0, 1, 1, 1, 1, 1, 1])
        self.assertEqual(from_columns({"a": [-1]}, modulus=5).table(), [0, 1])

    def test_factors_that_are_not_one(self):
        for modulus in (3, 5, 7):
            for factor in range(1, modulus):
                columns = {"a": [2, 3, 1], "b": [2 * factor, 3 * factor, factor], "c": [0, factor, 2]}
                self.check_structure(columns, modulus, ())

    def test_the_order_of_the_keys_means_nothing(self):
        items = [("a", [1, 0]), ("aa", [0, 0]), ("b", [1, 1])]
        expected = from_columns(dict(items))
        self.assertEqual(expected.table(), [0, 1, 0, 1, 1, 2, 1, 2])
        for order in permutations(items):
            self.assertEqual(from_columns(dict(order)), expected)

    def test_unseen_columns_stand_behind_in_their_order(self):
        structure = from_columns({"b": [0, 1]}, unseen=[[0, 0], [1, 1]])
        self.assertEqual(structure.table(), [0, 1, 0, 1, 1, 2, 1, 2])
        self.assertEqual((structure.names(), structure.unseen), (["b"], 2))
        self.assertEqual(from_columns({}, unseen=([1], [0])).table(), [0, 1, 0, 1])

    def test_no_columns_and_columns_without_numbers(self):
        self.assertEqual(from_columns({}), Structure([], [0]))
        self.assertEqual(from_columns({"a": [], "b": ()}, modulus=7), Structure.uniform(["a", "b"], 0))
        self.assertEqual(from_columns({"a": []}, unseen=[[]]).table(), [0, 0, 0, 0])

    def test_up_to_twelve_columns(self):
        drawn = random.Random(1)
        columns = [[drawn.randrange(2) for _ in range(5)] for _ in range(12)]
        for named in (3, 6):
            structure = from_columns(dict(zip(SIX[:named], columns)), unseen=columns[named:])
            self.assertEqual((len(structure), structure.unseen), (named, 12 - named))
            for index in drawn.sample(range(4096), 60):
                chosen = [columns[at] for at in positions_of(index)]
                self.assertEqual(structure.table()[index], rank_modulo(chosen, 2))

    def test_long_columns(self):
        columns = {name: [0] * 4990 + [int(name == other) for other in SIX] for name in SIX}
        self.assertEqual(from_columns(columns, modulus=5), Structure.free(SIX))

    def test_keys_that_are_no_names(self):
        for value in LONE_ODD:
            if "[" not in repr(value):
                self.check_raises(InvalidName, {"value": value}, from_columns, {"a": [1], value: [0], "B": [1]})
                self.check_raises(InvalidName, {"value": value}, from_columns, {value: [1], "B": [0]}, modulus=4)

    def test_too_many(self):
        seven = {name: [1] for name in SIX + ["g"]}
        six = {name: [1] for name in SIX}
        names, unseen = {"subject": "names", "most": 6}, {"subject": "unseen", "most": 9}
        whole = {"subject": "elements", "most": 12}
        self.check_raises(TooMany, names, from_columns, seven)
        self.check_raises(TooMany, unseen, from_columns, {}, unseen=[[1]] * 10)
        self.check_raises(TooMany, whole, from_columns, six, unseen=[[1]] * 7)
        self.check_raises(TooMany, whole, from_columns, {"a": [1], "b": [1], "c": [1], "d": [0]}, unseen=[[1]] * 9)
        self.assertEqual(from_columns({"a": [1], "b": [1], "c": [1]}, unseen=[[1]] * 9).full, 1)
        # The order of the errors.
        self.check_raises(InvalidName, {"value": "G"}, from_columns, {**seven, "G": [1]}, modulus=4, unseen=[[1]] * 10)
        self.check_raises(TooMany, names, from_columns, seven, modulus=4, unseen=[[1]] * 10)
        self.check_raises(TooMany, unseen, from_columns, six, modulus=4, unseen=[[1]] * 10)
        self.check_raises(TooMany, whole, from_columns, six, modulus=4, unseen=[[1]] * 7)

    def test_no_modulus(self):
        for value in ODD_VALUES + [4, 6, 8, 9, 11, -2, "2", [2], (2,), (3, 5)]:
            if type(value) is not int or value not in (2, 3, 5, 7):
                self.check_raises(InvalidNumber, {"value": value}, from_columns, {}, modulus=value)
                self.check_raises(InvalidNumber, {"value": value}, from_columns, {"a": [1]}, modulus=value, unseen=[[0]])
        self.assertEqual(from_columns({"a": [8]}, modulus=7).full, 1)

    def test_arguments_stay(self):
        columns, unseen = {"b": [3, 5], "a": [-1, 4]}, [[9, 9]]
        from_columns(columns, modulus=3, unseen=unseen)
        self.assertEqual((columns, list(columns), unseen), ({"b": [3, 5], "a": [-1, 4]}, ["b", "a"], [[9, 9]]))


class TestInterface(unittest.TestCase):
    def test_parameters(self):
        either, keyword = inspect.Parameter.POSITIONAL_OR_KEYWORD, inspect.Parameter.KEYWORD_ONLY
        none = inspect.Parameter.empty
        expected = {
            "is_bases": [("value", either, none)],
            "from_bases": [("names", either, none), ("bases", either, none)],
            "from_columns": [("columns", either, none), ("modulus", keyword, 2), ("unseen", keyword, ())],
        }
        for name, parameters in expected.items():
            function = getattr(building, name)
            self.assertEqual(function.__module__, "unseenrest.building")
            found = inspect.signature(function).parameters.values()
            self.assertEqual([(one.name, one.kind, one.default) for one in found], parameters)

    def test_arguments_by_name(self):
        self.assertIs(is_bases(value=((),)), True)
        self.assertEqual(from_bases(bases=(("a",),), names=["a"]), Structure.free(["a"]))
        self.assertEqual(from_columns(columns={"a": [1]}), Structure.free(["a"]))


if __name__ == "__main__":
    unittest.main()
