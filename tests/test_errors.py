"""Promise [2]: the errors."""

import unittest

from keptops import errors
from keptops.errors import OperandError

PLAIN = (
    "InvalidAnswers InvalidCall InvalidCode InvalidEvents InvalidExpression InvalidHistory InvalidLook "
    "InvalidMachine InvalidName InvalidNumber InvalidPair InvalidParts InvalidPath InvalidProgram InvalidRun "
    "InvalidScheme InvalidSense InvalidValue InvalidWorld NoProgram NoUse NotAlike NotPure NothingToUndo "
    "TooLarge TooMany"
).split()
KEEPING = {
    "InvalidText": "index", "NoExpressionFor": "index", "InvalidLine": "line", "Wanting": "events", "Unused": "count",
}


class ErrorsTest(unittest.TestCase):
    def all_errors(self):
        made = [getattr(errors, name)() for name in PLAIN]
        made += [getattr(errors, name)("why") for name in PLAIN]
        return made + [getattr(errors, name)(3) for name in KEEPING]

    def test_each_is_an_operand_error_and_none_of_the_others(self):
        classes = [getattr(errors, name) for name in [*PLAIN, *KEEPING]]
        self.assertEqual(len(set(classes)), 31)
        for error in self.all_errors():
            self.assertIsInstance(error, OperandError)
            self.assertIsInstance(error, ValueError)
            self.assertEqual([kind for kind in classes if isinstance(error, kind)], [type(error)])

    def test_the_base_class(self):
        self.assertTrue(issubclass(OperandError, ValueError))
        for name in [*PLAIN, *KEEPING]:
            self.assertTrue(issubclass(getattr(errors, name), OperandError))
            self.assertFalse(issubclass(OperandError, getattr(errors, name)))
            self.assertEqual(getattr(errors, name).__name__, name)
            self.assertEqual(getattr(errors, name).__module__, "keptops.errors")

    def test_no_other_error_stands_there(self):
        found = [name for name, value in vars(errors).items() if isinstance(value, type)]
        self.assertEqual(sorted(found), sorted([*PLAIN, *KEEPING, "OperandError"]))

    def test_the_attribute_is_what_it_was_made_with(self):
        values = [0, 7, -1, 10 ** 29, None, True, "", "index", (), (1, [2]), [("f", ())], [], {"a": []}, 10 ** 29]
        for name, attribute in KEEPING.items():
            for value in values:
                error = getattr(errors, name)(value)
                self.assertIs(getattr(error, attribute), value)
                self.assertIs(getattr(getattr(errors, name)(**{attribute: value}), attribute), value)
                self.assertIsInstance(str(error), str)

    def test_one_argument_is_wanted(self):
        for name in KEEPING:
            with self.assertRaises(TypeError):
                getattr(errors, name)()
            with self.assertRaises(TypeError):
                getattr(errors, name)(1, 2)

    def test_the_string_is_told(self):
        for name in PLAIN:
            self.assertEqual(str(getattr(errors, name)("why")), "why")


if __name__ == "__main__":
    unittest.main()
