"""[0.19]: the classes of errors, their bases, and what they keep."""

from risewords import errors
from support import STRANGE, Case

PLAIN = ("InvalidRow", "InvalidMix", "InvalidRatio", "InvalidTable", "InvalidLetters", "InvalidOrder",
         "InvalidOperation")
KEEPING = (("ParseError", "spot", errors.RiseError), ("InvalidNumber", "given", IndexError),
           ("UnknownName", "name", KeyError), ("TooMany", "limit", OverflowError),
           ("Refused", "reason", ArithmeticError), ("NothingToUndo", "steps", LookupError))


class Errors(Case):
    def test_rise_error_is_a_value_error(self):
        self.assertEqual(errors.RiseError.__bases__, (ValueError,))

    def test_plain_errors_derive_directly_from_rise_error(self):
        for name in PLAIN:
            self.assertEqual(getattr(errors, name).__bases__, (errors.RiseError,), name)

    def test_other_errors_derive_directly_from_their_base(self):
        for name, _, base in KEEPING:
            self.assertEqual(getattr(errors, name).__bases__, (base,), name)

    def test_plain_errors_take_a_message(self):
        for name in PLAIN:
            self.assertEqual(str(getattr(errors, name)("a message")), "a message")

    def test_errors_keep_any_value(self):
        for name, attribute, _ in KEEPING:
            for value in STRANGE + (("claim", "a"), 10 ** 99):
                self.assertIs(getattr(getattr(errors, name)(value), attribute), value)

    def test_errors_take_just_one_value(self):
        for name, _, _ in KEEPING:
            with self.assertRaises(TypeError):
                getattr(errors, name)()
            with self.assertRaises(TypeError):
                getattr(errors, name)(1, 2)

    def test_kept_values_can_be_given_by_keyword(self):
        for name, attribute, _ in KEEPING:
            self.assertEqual(getattr(getattr(errors, name)(**{attribute: 7}), attribute), 7)
