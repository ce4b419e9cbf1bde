import unittest

from brute import ODD_VALUES, tables_by_bases
from unseenrest.errors import DuplicateName, InvalidName, InvalidNumber, TooMany
from unseenrest.structures import Structure, structures

SIX = ["f", "e", "d", "c", "b", "a"]


class Base(unittest.TestCase):
    def check_raises(self, error, attributes, call, *given):
        with self.assertRaises(error) as caught:
            call(*given)
        self.assertIs(type(caught.exception), error)
        for name, value in attributes.items():
            found = getattr(caught.exception, name)
            self.assertEqual((type(found), found), (type(value), value))

    def check_names_errors(self, most, call):
        for value in ODD_VALUES:
            if value != "a":
                self.check_raises(InvalidName, {"value": value}, call, [value])
                self.check_raises(InvalidName, {"value": value}, call, ["b", "b", value, None])
        self.check_raises(DuplicateName, {"name": "b"}, call, SIX + ["b", "a"])
        self.check_raises(DuplicateName, {"name": "a"}, call, ("a", "a"))
        self.check_raises(TooMany, {"subject": "names", "most": most}, call, (SIX + ["g"])[:most + 1])
        for value in (None, True, 3, "ab"):
            self.check_raises(InvalidName, {"value": value}, call, value)


class TestFree(Base):
    def test_a_set_has_as_many_as_its_rank(self):
        for many in range(7):
            free = Structure.free(SIX[:many])
            self.assertEqual((free.names(), free.unseen), (sorted(SIX[:many]), 0))
            self.assertEqual(free.table(), [bin(at).count("1") for at in range(2 ** many)])

    def test_errors(self):
        self.check_names_errors(6, Structure.free)

    def test_names_are_copied(self):
        names = ["b", "a"]
        free = Structure.free(names)
        self.assertEqual(names, ["b", "a"])
        names.append("c")
        self.assertEqual(free.names(), ["a", "b"])


class TestUniform(Base):
    def test_a_set_has_at_most_the_rank(self):
        for many in range(7):
            for rank in range(many + 1):
                uniform = Structure.uniform(tuple(SIX[:many]), rank)
                self.assertEqual((uniform.names(), uniform.unseen, uniform.full), (sorted(SIX[:many]), 0, rank))
                self.assertEqual(uniform.table(), [min(rank, bin(at).count("1")) for at in range(2 ** many)])

    def test_errors_for_names_come_first(self):
        for rank in (0, 1, None, -1, "x"):
            self.check_names_errors(6, lambda names: Structure.uniform(names, rank))

    def test_errors_for_the_rank(self):
        for value in ODD_VALUES + [3]:
            if type(value) is not int or value not in (0, 1, 2):
                self.check_raises(InvalidNumber, {"value": value}, Structure.uniform, ["a", "b"], value)
        self.check_raises(InvalidNumber, {"value": 1}, Structure.uniform, [], 1)
        self.check_raises(InvalidNumber, {"value": 7}, Structure.uniform, SIX, 7)


class TestStructures(Base):
    def test_all_structures_ascending_by_their_tables(self):
        for many in range(4):
            found = list(structures(SIX[:many]))
            self.assertEqual([one.table() for one in found], tables_by_bases(many))
            for one in found:
                self.assertEqual((one.names(), one.unseen), (sorted(SIX[:many]), 0))
                self.assertEqual(one, Structure(SIX[:many], one.table()))

    def test_none_one_and_two_names(self):
        self.assertEqual([one.table() for one in structures([])], [[0]])
        self.assertEqual([one.table() for one in structures(("a",))], [[0, 0], [0, 1]])
        expected = [[0, 0, 0, 0], [0, 0, 1, 1], [0, 1, 0, 1], [0, 1, 1, 1], [0, 1, 1, 2]]
        self.assertEqual([one.table() for one in structures(["a", "b"])], expected)
        self.assertEqual(len(list(structures(["c", "a", "b"]))), 16)

    def test_errors(self):
        self.check_names_errors(3, lambda names: list(structures(names)))

    def test_it_is_a_generator_that_raises_when_its_first_item_is_asked_for(self):
        found = structures(["a", "B"])
        self.check_raises(InvalidName, {"value": "B"}, next, found)
        again = structures(["a"])
        self.assertIs(iter(again), again)
        self.assertEqual(next(again).table(), [0, 0])

    def test_the_list_of_names_is_not_changed(self):
        names = ["b", "a"]
        list(structures(names))
        self.assertEqual(names, ["b", "a"])


if __name__ == "__main__":
    unittest.main()
