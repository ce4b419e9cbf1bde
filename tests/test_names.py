import inspect
import unittest

from brute import ODD_VALUES
from unseenrest import names
from unseenrest.names import is_group, is_name, is_number, is_piece


def letters(many):
    return "abcdefgh"[:many]


class TestWords(unittest.TestCase):
    def test_a_name_has_one_to_four_letters(self):
        self.assertEqual([is_name(letters(many)) for many in range(7)], [False] + [True] * 4 + [False] * 2)
        self.assertTrue(is_name("zzzz"))

    def test_a_piece_has_one_to_six_letters(self):
        self.assertEqual([is_piece(letters(many)) for many in range(9)], [False] + [True] * 6 + [False] * 2)
        self.assertTrue(is_piece("zzzzzz"))

    def test_only_lowercase_letters_from_a_to_z_count(self):
        # Signs beside the letters, in ASCII and beyond it, and places at both ends and within.
        for sign in "AZ09 _-`{\n.;\u00e9\u00df\u0430":
            for word in (sign, sign + "a", "a" + sign, "a" + sign + "b"):
                self.assertIs(is_name(word), False, word)
                self.assertIs(is_piece(word), False, word)

    def test_values_that_are_no_strings_are_neither(self):
        for value in ODD_VALUES:
            self.assertIs(is_name(value), value == "a", value)
            self.assertIs(is_piece(value), value in ("a", "abcde"), value)
        for value in (b"a", ["a", "b"], ("ab",)):
            self.assertIs(is_name(value), False)
            self.assertIs(is_piece(value), False)


class TestGroup(unittest.TestCase):
    def test_groups(self):
        for value in ((), ("a",), ("a", "b"), ("a", "aa", "ab", "b"), tuple("abcdefgh"), ("abcd", "b")):
            self.assertIs(is_group(value), True, value)

    def test_names_that_are_not_ascending_or_not_different(self):
        for value in (("b", "a"), ("a", "a"), ("a", "b", "b"), ("a", "c", "b"), ("aa", "a"), ("a", "b", "a")):
            self.assertIs(is_group(value), False, value)

    def test_items_that_are_no_names(self):
        for value in ODD_VALUES:
            if value != "a":
                self.assertIs(is_group((value,)), False, value)
                self.assertIs(is_group(("a", value)), False, value)
                self.assertIs(is_group((value, "b")), False, value)

    def test_a_list_or_a_string_is_no_group(self):
        for value in ([], ["a"], ["a", "b"], "", "a", "ab", None, True, 0, {"a": 1}):
            self.assertIs(is_group(value), False, value)
        for value in ODD_VALUES:
            self.assertIs(is_group(value), value in ((), ("a",)), value)


class TestNumber(unittest.TestCase):
    def test_bounds_belong_to_it(self):
        self.assertEqual([is_number(value, 0, 3) for value in range(-2, 6)], [False] * 2 + [True] * 4 + [False] * 2)
        self.assertTrue(is_number(-1000000, -1000000, 1000000))
        self.assertTrue(is_number(1000000, -1000000, 1000000))
        self.assertTrue(is_number(5, 5, 5))

    def test_nothing_lies_between_bounds_that_are_turned(self):
        self.assertIs(is_number(0, 0, -1), False)

    def test_true_and_false_are_no_numbers(self):
        self.assertIs(is_number(True, 0, 1), False)
        self.assertIs(is_number(False, 0, 1), False)

    def test_other_values_are_no_numbers(self):
        for value in ODD_VALUES:
            self.assertIs(is_number(value, -1000000, 1000000), type(value) is int, value)


class TestInterface(unittest.TestCase):
    def test_parameters_and_results(self):
        for name, parameters in {
            "is_name": ["value"], "is_piece": ["value"], "is_group": ["value"], "is_number": ["value", "least", "most"],
        }.items():
            function = getattr(names, name)
            self.assertEqual(function.__module__, "unseenrest.names")
            found = list(inspect.signature(function).parameters.values())
            self.assertEqual([one.name for one in found], parameters)
            for one in found:
                self.assertEqual((one.kind, one.default), (one.POSITIONAL_OR_KEYWORD, one.empty))
        self.assertIs(is_number(most=3, value=2, least=1), True)
        self.assertIs(is_group(value=("a",)), True)
        self.assertIs(is_name(value="a"), True)
        self.assertIs(is_piece(value="a"), True)


if __name__ == "__main__":
    unittest.main()
