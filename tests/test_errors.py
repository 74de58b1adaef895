import unittest

from callsthrough import errors
from callsthrough.errors import CallError
from tests.helper import no_integers, odd_integers

ATTRIBUTES = {
    "BadShare": "field", "BadExchange": "field", "NoStanding": "thing", "NoShape": "thing", "NoPair": "thing",
    "NoDoor": "side", "NoMiddle": "thing", "NoCall": "thing", "BadCalls": "at", "BadRule": "key", "BadDeed": "at",
    "BadDiary": "at", "BadCount": "thing", "NotNext": "thing", "NoRoom": "middles", "Unlike": "field",
    "TooMany": "most", "BadText": "thing",
}


class ErrorsTest(unittest.TestCase):

    def test_call_error_stands_directly_under_value_error(self):
        self.assertEqual(CallError.__bases__, (ValueError,))

    def test_the_module_has_these_classes_and_no_others(self):
        found = [name for name, thing in vars(errors).items() if isinstance(thing, type)]
        self.assertEqual(sorted(found), sorted(["CallError", *ATTRIBUTES]))

    def test_each_class_stands_directly_under_call_error(self):
        for name in ATTRIBUTES:
            self.assertEqual(getattr(errors, name).__bases__, (CallError,), name)

    def test_each_class_is_defined_in_this_module(self):
        for name in ["CallError", *ATTRIBUTES]:
            self.assertEqual(getattr(errors, name).__module__, "callsthrough.errors")

    def test_each_error_holds_its_argument(self):
        for name, attribute in ATTRIBUTES.items():
            for value in no_integers() + odd_integers():
                error = getattr(errors, name)(value)
                self.assertIs(getattr(error, attribute), value)
                self.assertEqual(list(vars(error)), [attribute])

    def test_each_error_takes_its_argument_by_name(self):
        for name, attribute in ATTRIBUTES.items():
            error = getattr(errors, name)(**{attribute: "it"})
            self.assertEqual(getattr(error, attribute), "it")

    def test_each_error_takes_just_one_argument(self):
        for name in ATTRIBUTES:
            with self.assertRaises(TypeError):
                getattr(errors, name)()
            with self.assertRaises(TypeError):
                getattr(errors, name)(1, 2)

    def test_each_error_is_caught_by_its_bases(self):
        for name in ATTRIBUTES:
            for base in (CallError, ValueError):
                with self.assertRaises(base):
                    raise getattr(errors, name)(1)

    def test_no_error_fails_while_it_is_shown(self):
        for name in ATTRIBUTES:
            for value in no_integers() + odd_integers():
                error = getattr(errors, name)(value)
                self.assertIsInstance(str(error) + repr(error), str)


if __name__ == "__main__":
    unittest.main()
