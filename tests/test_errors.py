import inspect
import unittest

from brute import ODD_VALUES
from unseenrest import errors

REST = {
    "InvalidName": ["value"], "InvalidNumber": ["value"], "InvalidTable": ["at"], "InvalidBases": ["at"],
    "InvalidMark": ["value"], "InvalidFrame": [], "InvalidStep": ["path"], "InvalidTurn": ["path"],
    "UnlikeEnds": ["path"], "InvalidText": ["word"], "InvalidFact": ["at"], "InvalidCommand": ["at"],
    "InvalidPage": ["line"], "InvalidLimit": ["value"], "DuplicateName": ["name"], "UnlikeNames": [],
    "UnlikeTurns": [], "Circular": ["piece"], "InUse": ["piece", "user"], "Full": ["limit"], "TooDeep": ["most"],
    "TooMany": ["subject", "most"], "NoStructure": [],
}
MISSING = {"UnknownName": ["name"], "UnknownPiece": ["piece"]}
LEFT = {"NothingLeft": []}
ALL = {**REST, **MISSING, **LEFT}


def class_of(name):
    return getattr(errors, name)


class TestErrors(unittest.TestCase):
    def test_the_module_has_just_the_listed_classes(self):
        found = {name for name, value in vars(errors).items() if inspect.isclass(value)}
        self.assertEqual(found, set(ALL) | {"RestError", "Missing"})
        for name in found:
            self.assertEqual(class_of(name).__module__, "unseenrest.errors")
            self.assertEqual(class_of(name).__name__, name)

    def test_each_has_its_direct_base_class_and_no_other_one(self):
        self.assertEqual(errors.RestError.__bases__, (ValueError,))
        self.assertEqual(errors.Missing.__bases__, (LookupError,))
        for name in REST:
            self.assertEqual(class_of(name).__bases__, (errors.RestError,), name)
        for name in MISSING:
            self.assertEqual(class_of(name).__bases__, (errors.Missing,), name)
        self.assertEqual(errors.NothingLeft.__bases__, (IndexError,))

    def test_each_has_its_parameters_in_order_without_defaults(self):
        for name, parameters in ALL.items():
            found = list(inspect.signature(class_of(name)).parameters.values())
            self.assertEqual([one.name for one in found], parameters, name)
            for one in found:
                self.assertEqual((one.kind, one.default), (one.POSITIONAL_OR_KEYWORD, one.empty), name)

    def test_any_values_become_attributes_by_position_and_by_name(self):
        for name, parameters in ALL.items():
            for at, value in enumerate(ODD_VALUES):
                values = [value, ODD_VALUES[at - 1]][:len(parameters)]
                named = dict(zip(parameters, values))
                for error in (class_of(name)(*values), class_of(name)(**named)):
                    self.assertEqual([repr(getattr(error, one)) for one in parameters], [repr(one) for one in values])

    def test_a_value_is_kept_itself(self):
        value = ["a"]
        self.assertIs(errors.InvalidName(value).value, value)

    def test_the_code_is_the_name_of_the_class(self):
        for name, parameters in ALL.items():
            self.assertEqual(class_of(name)(*parameters).code, name)

    def test_the_two_bases_themselves_have_no_code(self):
        self.assertFalse(hasattr(errors.RestError(), "code"))
        self.assertFalse(hasattr(errors.Missing(), "code"))

    def test_wrong_numbers_of_arguments_are_refused(self):
        for name, parameters in ALL.items():
            with self.assertRaises(TypeError):
                class_of(name)(*parameters, "more")
            if parameters:
                with self.assertRaises(TypeError):
                    class_of(name)(*parameters[1:])

    def test_errors_are_raised_and_caught_by_their_bases(self):
        for name, parameters in ALL.items():
            base = ValueError if name in REST else LookupError
            with self.assertRaises(base) as caught:
                raise class_of(name)(*parameters)
            self.assertIs(caught.exception.__class__, class_of(name))


if __name__ == "__main__":
    unittest.main()
