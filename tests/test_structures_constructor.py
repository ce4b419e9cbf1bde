import inspect
import unittest
from itertools import permutations, product

from brute import ODD_VALUES, first_break, tables_by_bases
from samples import columns_table
from unseenrest.errors import DuplicateName, InvalidName, InvalidNumber, InvalidTable, TooMany
from unseenrest.structures import Structure

SIX = ["f", "e", "d", "c", "b", "a"]
LONE_ODD = [value for value in ODD_VALUES if value != "a"]


def free_table(count):
    return [bin(index).count("1") for index in range(2 ** count)]


class Base(unittest.TestCase):
    def check_raises(self, error, attributes, *given, **named):
        with self.assertRaises(error) as caught:
            Structure(*given, **named)
        self.assertIs(type(caught.exception), error)
        for name, value in attributes.items():
            found = getattr(caught.exception, name)
            self.assertEqual((type(found), found), (type(value), value))


class TestNames(Base):
    def test_names_stand_ascending_in_any_order_of_the_list(self):
        table = columns_table([1, 0, 3])
        for names in permutations(["b", "aa", "a"]):
            structure = Structure(list(names), table)
            self.assertEqual(structure.names(), ["a", "aa", "b"])
            self.assertEqual(structure.table(), table)
            self.assertEqual([structure.rank(name) for name in ("a", "aa", "b")], [1, 0, 1])

    def test_no_names_and_six_names(self):
        self.assertEqual(Structure([], [0]).names(), [])
        self.assertEqual(Structure(SIX, free_table(6)).names(), sorted(SIX))

    def test_the_first_value_that_is_no_name(self):
        for value in LONE_ODD:
            self.check_raises(InvalidName, {"value": value}, [value], [0, 1])
            self.check_raises(InvalidName, {"value": value}, ["a", value, None, "B"], None)
            self.check_raises(InvalidName, {"value": value}, (value, "b"), [0])

    def test_the_first_name_that_stands_there_again(self):
        self.check_raises(DuplicateName, {"name": "a"}, ["a", "a"], [0, 1])
        self.check_raises(DuplicateName, {"name": "b"}, ["a", "b", "b", "a"], [0, 1])
        self.check_raises(DuplicateName, {"name": "a"}, ["a", "b", "a", "b"], [0, 1])

    def test_more_than_six_names(self):
        self.check_raises(TooMany, {"subject": "names", "most": 6}, SIX + ["g"], free_table(7))
        self.check_raises(TooMany, {"subject": "names", "most": 6}, SIX + ["g", "h"], [0])

    def test_a_value_that_is_no_list_of_names(self):
        for value in (None, True, 3, "", "ab"):
            self.check_raises(InvalidName, {"value": value}, value, [0])


class TestUnseen(Base):
    def test_no_number_of_unseen_elements(self):
        for value in ODD_VALUES + [10, -1, 12]:
            if type(value) is not int or not 0 <= value <= 9:
                self.check_raises(InvalidNumber, {"value": value}, [], [0], unseen=value)

    def test_nine_are_the_most(self):
        for unseen in range(10):
            structure = Structure([], free_table(unseen), unseen=unseen)
            self.assertEqual((structure.unseen, structure.full), (unseen, unseen))
        self.check_raises(InvalidNumber, {"value": 10}, [], free_table(10), unseen=10)

    def test_twelve_elements_are_the_most(self):
        self.assertEqual(Structure.MOST, 12)
        for named in (3, 4, 5, 6):
            structure = Structure(SIX[:named], free_table(12), unseen=12 - named)
            self.assertEqual((len(structure), structure.unseen, structure.full), (named, 12 - named, 12))
            if named > 3:
                wrong = {"subject": "elements", "most": 12}
                self.check_raises(TooMany, wrong, SIX[:named], free_table(13), unseen=13 - named)
                self.check_raises(TooMany, wrong, SIX[:named], None, unseen=9)


class TestTable(Base):
    def test_a_value_that_is_no_list_with_an_entry_for_each_set(self):
        for value in ODD_VALUES + ["00", "01", {0: 0, 1: 1}]:
            is_list = isinstance(value, (list, tuple))
            if not is_list or len(value) != 1:
                self.check_raises(InvalidTable, {"at": -1}, [], value)
            if not is_list or len(value) != 2:
                self.check_raises(InvalidTable, {"at": -1}, ["a"], value)
                self.check_raises(InvalidTable, {"at": -1}, [], value, unseen=1)

    def test_tables_of_wrong_length(self):
        for many in (0, 1, 2, 3, 5, 7, 8, 9, 16):
            self.check_raises(InvalidTable, {"at": -1}, ["a", "b"], [0] * many)
            self.check_raises(InvalidTable, {"at": -1}, ["a"], (0,) * many, unseen=1)
        self.assertEqual(Structure(["a", "b"], [0] * 4).full, 0)

    def test_the_length_counts_before_the_entries(self):
        self.check_raises(InvalidTable, {"at": -1}, ["a"], [5, None, "x"])

    def test_the_empty_set_has_the_rank_zero(self):
        for value in LONE_ODD + ["a"]:
            if type(value) is not int or value != 0:
                self.check_raises(InvalidTable, {"at": 0}, [], [value])
                self.check_raises(InvalidTable, {"at": 0}, ["a"], [value, 7])

    def test_entries_that_are_no_numbers(self):
        for value in ODD_VALUES:
            if type(value) is not int:
                for at in range(4):
                    table = [0, 1, 1, 2]
                    table[at] = value
                    self.check_raises(InvalidTable, {"at": at}, ["a", "b"], table)
                    self.check_raises(InvalidTable, {"at": at}, ["a"], tuple(table), unseen=1)

    def test_one_more_element_adds_zero_or_one(self):
        self.check_raises(InvalidTable, {"at": 1}, ["a"], [0, 2])
        self.check_raises(InvalidTable, {"at": 1}, ["a"], [0, -1])
        self.check_raises(InvalidTable, {"at": 3}, ["a", "b"], [0, 1, 0, 0])
        self.check_raises(InvalidTable, {"at": 3}, ["a", "b"], [0, 0, 1, 2])

    def test_sums_of_the_ranks_of_two_sets(self):
        self.check_raises(InvalidTable, {"at": 3}, ["a", "b"], [0, 0, 0, 1])
        # All pairs are of rank 2, and all is well but for two sets of two elements that meet in one.
        self.check_raises(InvalidTable, {"at": 7}, ["a", "b", "c"], [0, 1, 1, 1, 1, 1, 2, 2])

    def test_the_least_index_that_breaks_counts(self):
        self.check_raises(InvalidTable, {"at": 1}, ["a", "b"], [0, 5, 5, 5])
        self.check_raises(InvalidTable, {"at": 2}, ["a", "b"], [0, 1, True, None])
        # The entry 4 is wrong by itself; those of 3 and of 5 are only wrong with others.
        self.check_raises(InvalidTable, {"at": 4}, ["a", "b", "c"], [0, 1, 1, 2, 3, 1, 1, 0])
        self.check_raises(InvalidTable, {"at": 3}, ["a", "b", "c"], [0, 0, 0, 1, 3, 1, 1, 0])

    def test_all_small_tables(self):
        for names, unseen, values in (([], 0, 4), (["a"], 0, 4), ([], 1, 4), (["a"], 1, 4), (["a", "b"], 1, 3)):
            count = len(names) + unseen
            for table in product(range(-1 if count < 3 else 0, values), repeat=2 ** count):
                at = first_break(table)
                if at is None:
                    self.assertEqual(Structure(names, table, unseen=unseen).table(), list(table))
                else:
                    self.check_raises(InvalidTable, {"at": at}, names, list(table), unseen=unseen)

    def test_tables_of_four_elements_with_one_or_two_other_entries(self):
        for table in tables_by_bases(4):
            self.assertEqual(Structure(["a"], table, unseen=3).table(), table)
            for at in range(16):
                changed = list(table)
                changed[at] = (table[at] + 1 if at % 2 else table[at] - 1)
                changed[15] = table[15] - at % 3 // 2
                found = first_break(changed)
                if found is None:
                    self.assertEqual(Structure(["a", "b"], changed, unseen=2).table(), changed)
                else:
                    self.check_raises(InvalidTable, {"at": found}, ["a", "b"], changed, unseen=2)

    def test_the_last_entry_of_the_largest_table(self):
        table = free_table(12)[:-1]
        self.assertEqual(Structure(SIX, table + [11], unseen=6).full, 11)
        for value in (10, 13, None):
            self.check_raises(InvalidTable, {"at": 4095}, SIX, table + [value], unseen=6)


class TestOrderOfErrors(Base):
    def test_the_error_that_is_listed_first(self):
        wrong = [
            (InvalidName, {"value": "A"}, SIX + ["f", "g", "A"], None, 99),
            (DuplicateName, {"name": "f"}, SIX + ["f", "g"], None, 99),
            (TooMany, {"subject": "names", "most": 6}, SIX + ["g"], None, 99),
            (InvalidNumber, {"value": 99}, SIX, None, 99),
            (TooMany, {"subject": "elements", "most": 12}, SIX, None, 9),
            (InvalidTable, {"at": -1}, SIX, None, 6),
            (InvalidTable, {"at": 0}, SIX, [1] * 4096, 6),
        ]
        for error, attributes, names, table, unseen in wrong:
            self.check_raises(error, attributes, names, table, unseen=unseen)


class TestArguments(Base):
    def test_parameters(self):
        found = list(inspect.signature(Structure).parameters.values())
        self.assertEqual([one.name for one in found], ["names", "table", "unseen"])
        either = inspect.Parameter.POSITIONAL_OR_KEYWORD
        self.assertEqual([one.kind for one in found], [either, either, inspect.Parameter.KEYWORD_ONLY])
        self.assertEqual([one.default for one in found], [inspect.Parameter.empty, inspect.Parameter.empty, 0])
        self.assertEqual(Structure(table=[0, 1], names=["a"]), Structure(["a"], [0, 1]))
        with self.assertRaises(TypeError):
            Structure([], [0, 1], 1)

    def test_tuples_may_be_passed(self):
        self.assertEqual(Structure(("b", "a"), (0, 1, 0, 1)), Structure(["a", "b"], [0, 1, 0, 1]))

    def test_arguments_are_copied_and_not_changed(self):
        names, table = ["b", "a"], [0, 1, 0, 1]
        structure = Structure(names, table)
        self.assertEqual((names, table), (["b", "a"], [0, 1, 0, 1]))
        names.append("c")
        table[1] = 0
        self.assertEqual((structure.names(), structure.table(), structure.rank("a")), (["a", "b"], [0, 1, 0, 1], 1))


if __name__ == "__main__":
    unittest.main()
