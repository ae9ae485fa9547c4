"""[2.1]: the texts of terms, and how they are read."""

import unittest
from itertools import product

from firstneed.base.terms import Term
from firstneed.errors import InvalidTerm, ParseError
from tests.helper import all_kinds, bush, chain, nodes_of, raised, small_trees, term_of, text_of, told

LONG = ("f(a, _, g(#))", "k(f(a, b), g(_))", "g(g(g(a)))", "cons(abcdefgh, #)", "h(a, f(_, _), b)")


def has_two_arities(nodes):
    words = [node for node in set(nodes) if node[0] not in ("_", "#")]
    return len({word for word, _ in words}) < len(words)


class Read(unittest.TestCase):
    def assert_read(self, text):
        """It is read as the second reading reads it, or refused as that one refuses it."""
        tree = told(text)
        if tree is None:
            self.assert_no_text(text)
        elif has_two_arities(nodes_of(tree)):
            self.assertIs(type(raised(Term.read, text)), InvalidTerm, text)
        else:
            term = Term.read(text)
            self.assertEqual((term.nodes, term.text), (nodes_of(tree), text))

    def assert_no_text(self, text):
        error = raised(Term.read, text)
        self.assertIs(type(error), ParseError, text)
        self.assertIsNone(error.line)

    def test_nodes_of_texts(self):
        for text, nodes in [("a", (("a", 0),)), ("_", (("_", 0),)), ("#", (("#", 0),)),
                            ("f(a)", (("f", 1), ("a", 0))), ("f(_, #)", (("f", 2), ("_", 0), ("#", 0))),
                            ("f(a, _, g(#))", (("f", 3), ("a", 0), ("_", 0), ("g", 1), ("#", 0))),
                            ("f(g(g(a)), b)", (("f", 2), ("g", 1), ("g", 1), ("a", 0), ("b", 0))),
                            ("abcdefgh(hgfedcba)", (("abcdefgh", 1), ("hgfedcba", 0)))]:
            self.assertEqual(Term.read(text).nodes, nodes)
            self.assertEqual(Term(nodes).text, text)

    def test_small_trees_there_and_back(self):
        for tree in small_trees(("a", "b", "_", "#"), 4):
            self.assertEqual(Term.read(text_of(tree)).nodes, nodes_of(tree))
            self.assertEqual(Term.read(term_of(tree).text), term_of(tree))

    def test_all_short_texts(self):
        for size in range(5):
            for letters in product("af_#(), ", repeat=size):
                self.assert_read("".join(letters))
        for letters in product("a_(), ", repeat=6):
            self.assert_read("f" + "".join(letters))

    def test_texts_with_one_sign_too_many(self):
        for text in LONG:
            for at in range(len(text) + 1):
                for sign in "a_#(), AZ09\n\t.-":
                    self.assert_read(text[:at] + sign + text[at:])

    def test_texts_with_one_sign_too_few_or_another(self):
        for text in LONG:
            for at in range(len(text)):
                for sign in ("", *"ab_#(), F1\n;[]"):
                    self.assert_read(text[:at] + sign + text[at + 1:])

    def test_texts_with_exchanged_signs(self):
        for text in LONG:
            for at in range(len(text) - 1):
                self.assert_read(text[:at] + text[at + 1] + text[at] + text[at + 2:])

    def test_blanks(self):
        for text in ("f(a,b)", "f(a,  b)", "f(a , b)", " f(a, b)", "f(a, b) ", "f (a, b)", "f( a, b)", "f(a, b )",
                     "a ", " a", "f(a,\nb)", "f(a, b)\n", "\nf(a, b)", "a\n", "_ ", " #", "f(a,\tb)"):
            self.assert_no_text(text)

    def test_commas_and_brackets(self):
        for text in ("", "()", "(a)", "f()", "f(, a)", "f(a, )", "f(a,, b)", "f(a, , b)", "a, b", ", ", ", a", "a, ",
                     "f(a", "f(a))", "f(a)(b)", "f((a))", "f(a) g(b)", "f(a)g(b)", "f(a)b", ")", "(", ")a(", "f)a(",
                     "f(a, b", "f(a, g(b)", "f(a, b))", "f(a, b), c", "f[a]", "f(a; b)", "f a", "a b", "f(a b)",
                     "f(a)b)", "f(g(a), b"):
            self.assert_no_text(text)

    def test_words(self):
        for text in ("A", "f(A)", "F(a)", "a1", "f(a, 1)", "abcdefghi", "f(abcdefghi)", "abcdefghi(a)", "__", "##",
                     "_a", "a_", "#a", "_#", "a-b", "f(a, '')", "f(a, \u00e9)"):
            self.assert_no_text(text)

    def test_leaves_with_arguments(self):
        for text in ("_(a)", "#(a)", "_()", "#()", "_(a, b)", "f(_(a))", "f(a, #(b))"):
            self.assert_no_text(text)

    def test_four_arguments(self):
        for text in ("f(a, b, c, d)", "f(a, a, a, a)", "g(f(a, b, c, d))", "f(_, _, _, _)", "f(a, b, c, d, e)"):
            self.assert_no_text(text)

    def test_words_with_two_arities(self):
        for text in ("a(a)", "f(a, f)", "f(f(a), b)", "f(a, g(a(b)))", "f(g, g(a))", "f(f(a, b, c))", "f(a, b, b(_))"):
            self.assertIs(type(raised(Term.read, text)), InvalidTerm, text)

    def test_forty_and_forty_one_nodes(self):
        for shape in (chain, bush):
            self.assertEqual((len(Term.read(shape(40))), Term.read(shape(40)).text), (40, shape(40)))
            for size in (41, 42, 80, 200):
                self.assert_no_text(shape(size))

    def test_too_many_nodes_come_ahead_of_two_arities(self):
        self.assert_no_text(f"f({chain(39)}, g)")
        self.assertIs(type(raised(Term.read, f"f({chain(38)}, g)")), InvalidTerm)

    def test_other_faults_come_ahead_of_two_arities(self):
        for text in ("f(a, f", "f(a, f))", "f(a,f)", "f(f, A)", "f(f, b, c, d)", "f(f, _(a))"):
            self.assert_no_text(text)

    def test_long_texts(self):
        for text in ("a" * 9000, "(" * 9000, ")" * 9000, "f(" * 4500, ", " * 4500, "f(a, " * 1800,
                     "f(" * 3000 + ")" * 3000, "g(" * 2999 + "a" + ")" * 2999, " " * 9000, "_" * 9000, "a, " * 3000):
            self.assert_no_text(text)

    def test_values_that_are_no_strings(self):
        for value in all_kinds():
            if not isinstance(value, str):
                self.assert_no_text(value)
        for value in (("a",), ["a"], ["f", "(", "a", ")"], (("a", 0),), Term.build("a"), {"a": 0}, 0):
            self.assert_no_text(value)


if __name__ == "__main__":
    unittest.main()
