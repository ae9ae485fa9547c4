"""The examples of the document, as they stand there."""

import unittest

from firstneed.base.terms import Term
from firstneed.base.words import is_node, is_symbols, is_word


class Examples(unittest.TestCase):
    def test_errors_and_words(self):
        self.assertEqual(
            [is_word("cons"), is_word("_"), is_node(("f", 3)), is_node(("_", 0)), is_node(("#", 1)),
             is_symbols({"a": 0, "f": 2}), is_symbols({"f": 2})],
            [True, False, True, True, False, True, False])

    def test_terms(self):
        one, two = Term.read("f(a, _, g(_))"), Term.build("f", Term.build("_"), Term.build("b"), Term.build("_"))
        self.assertEqual(
            [one.children(0), one.unknown, (one & two).text, (one | two).text, one.part(3).text, one.above(4),
             one.filled(Term.build("a"), one.part(1)).text],
            [(1, 2, 3), (2, 4), 'f(a, b, g(_))', 'f(_, _, _)', 'g(_)', (0, 3, 4), 'f(a, a, g(a))'])
        self.assertEqual(
            [one.is_instance(two), (one & two).is_instance(two), one.with_part(1, Term.build("#")).lost, len(one),
             one.depth, str(two)],
            [False, True, (1,), 5, 3, 'f(_, b, _)'])

    def test_texts(self):
        for text in ("_", "#", "a", "f(a, _, g(#))"):
            self.assertEqual(Term.read(text).text, text)


if __name__ == "__main__":
    unittest.main()
