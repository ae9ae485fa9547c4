"""[1.1], [1.2]: the errors, what they are derived from, and what they keep."""

import unittest

from firstneed import errors
from tests.helper import all_kinds

TELLING = ("InvalidWord", "InvalidTerm", "InvalidBook", "InvalidProgram", "InvalidTable", "InvalidLines", "InvalidRows",
           "InvalidOperation", "ParseError")
KEEPING = {"UnknownWord": (KeyError, "asked"), "UnknownPlace": (LookupError, "spot"),
           "NothingToUndo": (IndexError, "amount"), "TooMany": (OverflowError, "limit"),
           "Refused": (ArithmeticError, "cause"), "InvalidNumber": (RuntimeError, "number")}
PLAIN = (ValueError, KeyError, LookupError, IndexError, OverflowError, ArithmeticError, RuntimeError)


def named(name):
    return getattr(errors, name)


class Derived(unittest.TestCase):
    def test_need_error_is_derived_from_value_error(self):
        self.assertEqual(errors.NeedError.__bases__, (ValueError,))

    def test_telling_errors_are_directly_derived_from_need_error(self):
        for name in TELLING:
            self.assertEqual(named(name).__bases__, (errors.NeedError,), name)

    def test_keeping_errors_are_directly_derived(self):
        for name, (base, _) in KEEPING.items():
            self.assertEqual(named(name).__bases__, (base,), name)

    def test_no_error_is_another_one(self):
        names = [*TELLING, *KEEPING]
        for one in names:
            for other in names:
                self.assertEqual(issubclass(named(one), named(other)), one == other, (one, other))

    def test_keeping_errors_are_no_need_errors(self):
        for name in KEEPING:
            self.assertFalse(issubclass(named(name), errors.NeedError), name)
            self.assertFalse(issubclass(named(name), ValueError), name)

    def test_each_is_caught_by_its_ancestors_alone(self):
        for name, (base, _) in KEEPING.items():
            for plain in PLAIN:
                self.assertEqual(issubclass(named(name), plain), issubclass(base, plain), (name, plain))
        for name in TELLING:
            for plain in PLAIN:
                self.assertEqual(issubclass(named(name), plain), plain is ValueError, (name, plain))

    def test_each_is_defined_where_the_interface_lists_it(self):
        for name in ["NeedError", *TELLING, *KEEPING]:
            self.assertEqual((named(name).__module__, named(name).__name__), ("firstneed.errors", name))


class Kept(unittest.TestCase):
    def test_each_keeps_its_argument(self):
        for name, (_, attribute) in KEEPING.items():
            for value in all_kinds():
                self.assertEqual(getattr(named(name)(value), attribute), value, name)

    def test_each_keeps_it_under_its_own_name_only(self):
        attributes = ["line", *[attribute for _, attribute in KEEPING.values()]]
        for name, (_, attribute) in [*KEEPING.items(), ("ParseError", (None, "line"))]:
            error = named(name)(5)
            self.assertEqual([one for one in attributes if hasattr(error, one)], [attribute], name)

    def test_parse_error_keeps_a_line(self):
        for line in (None, 0, 1, 17):
            error = errors.ParseError(line)
            self.assertEqual(error.line, line)
            self.assertIs(error.line is None, line is None)

    def test_they_keep_it_when_raised(self):
        with self.assertRaises(KeyError) as caught:
            raise errors.UnknownWord("cons")
        self.assertEqual(caught.exception.asked, "cons")
        with self.assertRaises(ValueError) as caught:
            raise errors.ParseError(2)
        self.assertEqual(caught.exception.line, 2)

    def test_the_others_take_a_message(self):
        for name in ["NeedError", *TELLING[:-1]]:
            self.assertEqual(str(named(name)("what is wrong")), "what is wrong", name)


if __name__ == "__main__":
    unittest.main()
