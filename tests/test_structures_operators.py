import unittest

from brute import ODD_VALUES, items_of, ranks_of, subsets
from samples import larger, small, with_splits
from unseenrest.errors import DuplicateName, TooMany
from unseenrest.structures import Structure


def unseen_only(count):
    return Structure([], [0] * 2 ** count, unseen=count)


def dual_ranks(structure):
    ranks = ranks_of(structure)
    everything = frozenset(items_of(structure))
    return {part: len(part) + ranks[everything - part] - structure.full for part in subsets(everything)}


class TestDual(unittest.TestCase):
    def test_by_its_definition(self):
        for structure in small() + with_splits(4, named=2) + larger():
            dual = ~structure
            self.assertEqual((dual.names(), dual.unseen), (structure.names(), structure.unseen))
            self.assertEqual(ranks_of(dual), dual_ranks(structure))

    def test_twice_gives_the_same_and_the_first_one_stays(self):
        for structure in small() + larger():
            table = structure.table()
            self.assertEqual(~~structure, structure)
            self.assertEqual(structure.table(), table)

    def test_it_could_have_been_built(self):
        for structure in small():
            dual = ~structure
            self.assertEqual(Structure(dual.names(), dual.table(), unseen=dual.unseen), dual)


def moved(structure, before):
    """The elements of a structure by their names or numbers in a sum, for so many unseen ones before its own."""
    return {item: item if isinstance(item, str) else item + before for item in items_of(structure)}


class TestSum(unittest.TestCase):
    def check_sum(self, one, other):
        found = one + other
        self.assertEqual(found.names(), sorted(one.names() + other.names()))
        self.assertEqual(found.unseen, one.unseen + other.unseen)
        first, second = ranks_of(one), ranks_of(other)
        places, shifted = moved(one, 0), moved(other, one.unseen)
        expected = {}
        for part, rank in first.items():
            for behind, more in second.items():
                expected[frozenset([places[item] for item in part] + [shifted[item] for item in behind])] = rank + more
        self.assertEqual(ranks_of(found), expected)

    def test_by_its_definition(self):
        # The names of the first ones are b and d, so that those of the second ones stand ahead, between and behind.
        firsts = [structure for count in range(3) for structure in with_splits(count)]
        seconds = []
        for structure in small():
            for names in (["a", "c", "e"], ["zz", "c", "aa"]):
                names = names[:len(structure)]
                seconds.append(Structure(names, structure.table(), unseen=structure.unseen))
        for one in firsts:
            for other in seconds:
                self.check_sum(one, other)
                self.check_sum(other, one)

    def test_the_unseen_ones_of_the_first_come_first(self):
        loop, bridge = Structure([], [0, 0], unseen=1), Structure([], [0, 1], unseen=1)
        self.assertEqual((loop + bridge).table(), [0, 0, 1, 1])
        self.assertEqual((bridge + loop).table(), [0, 1, 0, 1])

    def test_up_to_six_names_nine_unseen_and_twelve_elements(self):
        names = ["a", "b", "c", "d", "e", "f"]
        self.check_sum(Structure.free(names[::2]), Structure.uniform(names[1::2], 1))
        self.check_sum(unseen_only(4), Structure([], [min(1, at) for at in range(32)], unseen=5))
        self.check_sum(Structure.free(names), Structure([], [min(1, at) for at in range(64)], unseen=6))
        self.check_sum(Structure.free(names[:3]), unseen_only(9))

    def check_raises(self, error, attributes, one, other):
        with self.assertRaises(error) as caught:
            one + other
        self.assertIs(type(caught.exception), error)
        for name, value in attributes.items():
            self.assertEqual(getattr(caught.exception, name), value)

    def test_the_first_common_name(self):
        one = Structure.free(["d", "c", "b"])
        self.check_raises(DuplicateName, {"name": "c"}, one, Structure.free(["d", "a", "c"]))
        self.check_raises(DuplicateName, {"name": "b"}, one, one)
        self.check_raises(DuplicateName, {"name": "d"}, Structure.free(["d"]), one)
        bare = unseen_only(2)
        self.assertEqual((bare + bare).unseen, 4)

    def test_too_many(self):
        names = ["a", "b", "c", "d", "e", "f"]
        six = Structure.free(names)
        self.check_raises(TooMany, {"subject": "names", "most": 6}, six, Structure.free(["g"]))
        self.check_raises(TooMany, {"subject": "unseen", "most": 9}, unseen_only(5), unseen_only(5))
        self.check_raises(TooMany, {"subject": "elements", "most": 12}, six, unseen_only(7))
        self.check_raises(TooMany, {"subject": "elements", "most": 12}, unseen_only(9), Structure.free(names[:4]))

    def test_the_order_of_the_errors(self):
        names = ["a", "b", "c", "d", "e", "f"]
        one = Structure.free(names) + unseen_only(6)
        self.check_raises(DuplicateName, {"name": "b"}, one, Structure.free(["g", "b"]) + unseen_only(4))
        self.check_raises(TooMany, {"subject": "names", "most": 6}, one, Structure.free(["g"]) + unseen_only(4))
        self.check_raises(TooMany, {"subject": "unseen", "most": 9}, one, unseen_only(4))
        self.check_raises(TooMany, {"subject": "elements", "most": 12}, one, unseen_only(3))

    def test_both_parts_stay(self):
        one, other = Structure(["a"], [0, 1, 1, 1], unseen=1), Structure(["b"], [0, 1])
        one + other
        self.assertEqual((one.names(), one.table(), other.names(), other.table()), (["a"], [0, 1, 1, 1], ["b"], [0, 1]))

    def test_other_values_cannot_be_added(self):
        for value in ODD_VALUES:
            with self.assertRaises(TypeError):
                Structure([], [0]) + value


class TestEqual(unittest.TestCase):
    def test_names_numbers_of_unseen_elements_and_tables_count(self):
        table = [0, 1, 1, 1]
        structure = Structure(["a", "b"], table)
        self.assertTrue(structure == Structure(("b", "a"), tuple(table)))
        self.assertFalse(structure != Structure(["b", "a"], table))
        for other in (
            Structure(["a", "c"], table), Structure(["a"], table, unseen=1), Structure([], table, unseen=2),
            Structure(["a", "b"], [0, 1, 1, 2]), Structure(["a"], [0, 1]),
        ):
            self.assertFalse(structure == other)
            self.assertTrue(structure != other)

    def test_structures_from_all_sources_are_equal(self):
        structure = Structure(["a", "b"], [0, 1, 1, 2])
        one = Structure(["a"], [0, 1])
        for other in (
            Structure.free(["b", "a"]), Structure.uniform(["a", "b"], 2), ~Structure.uniform(["a", "b"], 0),
            one + Structure.free(["b"]), Structure(["b", "a"], [0, 1, 1, 2, 0, 1, 1, 2], unseen=1).behind(),
        ):
            self.assertTrue(structure == other)
            self.assertTrue(other == structure)

    def test_a_structure_equals_nothing_else(self):
        bare = Structure([], [0])
        for value in ODD_VALUES + [[0], ([], [0]), "Structure(-, 0 unseen, rank 0)", Structure]:
            self.assertIs(bare == value, False)
            self.assertIs(bare != value, True)


if __name__ == "__main__":
    unittest.main()
