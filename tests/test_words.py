"""[0.1], [0.5], [0.7], [0.8], [0.10]: integers, words, nodes and symbols."""

import string
import unittest

from firstneed.base import words
from firstneed.base.terms import Term
from firstneed.base.words import is_integer, is_node, is_symbols, is_word
from tests.helper import all_kinds, nested


class Judging(unittest.TestCase):
    def judge(self, judge, right, wrong):
        """Right and wrong values, with the very answers True and False."""
        for value in right:
            self.assertIs(judge(value), True, value)
        for value in wrong:
            self.assertIs(judge(value), False, value)


class Constants(unittest.TestCase):
    def test_constants(self):
        self.assertEqual((words.MAX_LETTERS, words.MAX_ARITY, words.MAX_SYMBOLS), (8, 3, 8))
        self.assertEqual((words.ANY, words.LOST), ("_", "#"))

    def test_functions_are_defined_where_the_interface_lists_them(self):
        for function in (is_integer, is_word, is_node, is_symbols):
            self.assertEqual(function.__module__, "firstneed.base.words")


class AllKinds(unittest.TestCase):
    def test_each_value_is_judged(self):
        for judge in (is_integer, is_word, is_node, is_symbols):
            for value in all_kinds():
                self.assertIn(judge(value), (True, False))
                self.assertIs(type(judge(value)), bool)

    def test_what_the_kinds_are(self):
        kinds = all_kinds()
        self.assertEqual([value for value in kinds if is_integer(value)],
                         [0, 1, 2, 3, 4, -1, 40, 10 ** 59, 10 ** 60 - 1])
        self.assertEqual([value for value in kinds if is_word(value)], ["a", "f", "abcdefgh"])
        self.assertEqual([value for value in kinds if is_node(value)], [("a", 0), ("_", 0), ("#", 0)])
        self.assertEqual([value for value in kinds if is_symbols(value)], [{"a": 0}])

    def test_judging_changes_nothing(self):
        value = {"b": 0, "a": 1}
        is_symbols(value)
        self.assertEqual(list(value.items()), [("b", 0), ("a", 1)])


class Integers(Judging):
    def test_integers(self):
        self.judge(is_integer, [0, 1, -1, 7, -3, 2 ** 64], [])

    def test_booleans_are_none(self):
        self.judge(is_integer, [], [True, False])

    def test_at_most_sixty_digits(self):
        self.judge(is_integer, [10 ** 59, 10 ** 60 - 1, 1 - 10 ** 60, -(10 ** 59)],
                   [10 ** 60, -(10 ** 60), 10 ** 61, 10 ** 100 - 1, 1 - 10 ** 100])

    def test_other_kinds(self):
        self.judge(is_integer, [], [None, "", "1", (), (1,), [1], {}, {1: 1}, nested(1, 8), Term.build("a")])


class Words(Judging):
    def test_words(self):
        self.judge(is_word, ["cons", "a", "z", "nil", "azazazaz"], [])

    def test_each_letter(self):
        self.judge(is_word, string.ascii_lowercase, [])
        self.judge(is_word, ["a" + letter for letter in string.ascii_lowercase], [])

    def test_one_to_eight_letters(self):
        self.judge(is_word, ["x", "xy", "abcdefgh"], ["", "abcdefghi", "a" * 9, "a" * 16, "a" * 9000])

    def test_each_other_sign(self):
        others = [chr(code) for code in range(32, 127) if chr(code) not in string.ascii_lowercase] + ["\n"]
        for sign in others:
            self.judge(is_word, [], [sign, "a" + sign, sign + "a", "a" + sign + "a"])

    def test_letters_beyond_a_to_z(self):
        self.judge(is_word, [], ["\u00e9", "a\u00e4", "\u00df", "\u03b1", "\u0430", "\uff41", "\u0131", "\u00b5a"])

    def test_other_kinds(self):
        self.judge(is_word, [], [None, True, 0, 1, ("a",), ["a"], {"a": 0}, nested("a", 8), Term.build("a")])


class Nodes(Judging):
    def test_words_with_arities(self):
        self.judge(is_node, [("f", 0), ("f", 1), ("f", 2), ("f", 3), ("abcdefgh", 3)],
                   [("f", -1), ("f", 4), ("f", 40), ("f", 10 ** 60), ("f", -(10 ** 60))])

    def test_arities_that_are_no_integers(self):
        for arity in (True, False, None, "1", "", (1,), [1], {}, Term.build("a")):
            self.judge(is_node, [], [("f", arity)])

    def test_leaves_have_no_arguments(self):
        for leaf in ("_", "#"):
            self.judge(is_node, [(leaf, 0)], [(leaf, 1), (leaf, 2), (leaf, 3), (leaf, -1), (leaf, 4), (leaf, False),
                                              (leaf, None), (leaf, "0")])

    def test_signs_that_are_no_words(self):
        self.judge(is_node, [], [(sign, 0) for sign in ("", "A", "f ", "abcdefghi", "__", "##", "_#", 0, None, True,
                                                        ("f",), ["f"], ("_", 0), {}, Term.build("_"))])

    def test_other_lengths_and_kinds(self):
        self.judge(is_node, [], [(), ("f",), ("f", 1, 1), ("_", 0, 0), (1, "f"), ["f", 1], ["_", 0], "f1", "_0",
                                 {"f": 1}, None, 0, True, Term.build("a"), nested(("f", 1), 7), nested("f", 8)])


class Symbols(Judging):
    def test_symbols(self):
        self.judge(is_symbols, [{"a": 0}, {"a": 0, "f": 2}, {"f": 3, "g": 1, "a": 0, "b": 0}],
                   [{"f": 2}, {"f": 1, "g": 3}])

    def test_one_to_eight_words(self):
        eight = {letter: 0 for letter in "abcdefgh"}
        self.judge(is_symbols, [{"z": 0}, {"z": 0, "y": 3}, eight, {**eight, "h": 3}], [{}, {**eight, "i": 0}])

    def test_each_arity(self):
        self.judge(is_symbols, [{"a": 0, "f": arity} for arity in (0, 1, 2, 3)],
                   [{"a": 0, "f": arity} for arity in (-1, 4, 10 ** 60, True, False, None, "1", (1,), [], {})])

    def test_false_is_no_constant(self):
        self.judge(is_symbols, [], [{"a": False}, {"a": False, "f": 2}, {"f": 1, "a": False}])

    def test_keys_that_are_no_words(self):
        for key in ("", "A", "_", "#", "a b", "abcdefghi", 0, 1, None, True, (), ("a",), ("a", 0)):
            self.judge(is_symbols, [], [{key: 0}, {"a": 0, key: 0}, {key: 2, "a": 0}])

    def test_other_kinds(self):
        self.judge(is_symbols, [], [None, True, 0, "a", (("a", 0),), [("a", 0)], ["a"], nested({"a": 0}, 7),
                                    {"a": {"a": 0}}, Term.build("a")])


if __name__ == "__main__":
    unittest.main()
