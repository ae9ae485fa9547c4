"""[3.1], [3.2] and the section on books: other books that are made of a book, and which of two knows more."""

import random
import unittest

from firstneed.base.books import Book, read_rules
from firstneed.base.terms import Term
from firstneed.errors import InvalidBook, InvalidNumber, InvalidOperation
from tests.helper import all_kinds, fits, raised
from tests.samples import COND, GUS, SEQ, chance_books, chance_term, no_books, term, terms
from tests.slow import nested

BOOKS = chance_books(41, 40)
WRONG = [-1, 3, 4, 10 ** 60, True, False, None, "0", (0,), [0], term("a")]


class Changed(unittest.TestCase):
    def test_with_rule(self):
        book = SEQ.with_rule(term("a"), term("f(_, b)"))
        self.assertEqual(book.lines, (*SEQ.lines, "a => f(_, b)"))
        self.assertEqual(len(SEQ), 3)
        for given in [("a", term("a")), (term("a"), None), (term("_"), term("a")), (term("g"), term("b")),
                      (term("a"), term("#")), (term("h"), term("a")), (term("a"), term("f(a)")),
                      (term("a"), term("f(f(f(a, a), a), f(a, a))"))]:
            self.assertIs(type(raised(SEQ.with_rule, *given)), InvalidBook)
        full = Book({"a": 0, "f": 1}, tuple((term("f(" * at + "a" + ")" * at), term("a")) for at in range(6)))
        self.assertIs(type(raised(full.with_rule, term("f(_)"), term("a"))), InvalidBook)

    def test_without(self):
        self.assertEqual(SEQ.without(1).lines, ("symbols a 0 b 0 f 2 g 0", "f(a, _) => _", "g => _"))
        self.assertEqual(Book.read("symbols a 0", "a => a").without(0), Book({"a": 0}))
        for wrong in WRONG:
            error = raised(SEQ.without, wrong)
            self.assertEqual((type(error), error.number), (InvalidNumber, wrong))

    def test_with_symbol(self):
        self.assertEqual(SEQ.with_symbol("c", 3).symbols, {"a": 0, "b": 0, "c": 3, "f": 2, "g": 0})
        self.assertEqual(list(SEQ.with_symbol("c", 3).symbols), ["a", "b", "c", "f", "g"])
        self.assertEqual(SEQ.with_symbol("c", 3).rules, SEQ.rules)
        self.assertEqual(SEQ.with_symbol("f", 2), SEQ)
        for given in [("f", 1), ("a", 1), ("c", 4), ("c", -1), ("c", None), ("c", True), ("a", False), ("_", 0),
                      ("#", 0), ("abcdefghi", 0), (None, 0), ([], 0), ({}, 0), (5, 0), ("f", 10 ** 60), ("C", 0)]:
            self.assertIs(type(raised(SEQ.with_symbol, *given)), InvalidBook, given)
        self.assertIs(type(raised(Book({letter: 0 for letter in "abcdefgh"}).with_symbol, "i", 0)), InvalidBook)

    def test_with_sketch(self):
        book = SEQ.with_sketch(1, term("f(_, g)"))
        self.assertEqual(book.lines, (*SEQ.lines[:2], "f(b, a) => f(_, g)", SEQ.lines[3]))
        for wrong in WRONG:
            error = raised(SEQ.with_sketch, wrong, 5)
            self.assertEqual((type(error), error.number), (InvalidNumber, wrong))
        for value in all_kinds() + [term("h"), term("f(f(f(a, a), a), f(a, a))")]:
            if value not in (term("a"), term("_")):
                self.assertIs(type(raised(SEQ.with_sketch, 0, value)), InvalidBook)

    def test_strong(self):
        for book in BOOKS:
            strong = book.strong()
            self.assertEqual([strong.symbols, strong.patterns], [book.symbols, book.patterns])
            self.assertEqual(strong.sketches, (term("_"),) * len(book))
            self.assertTrue(book.knows_more(strong))

    def test_renamed(self):
        book = SEQ.renamed({"a": "b", "b": "a", "f": "pair", "g": "g"})
        self.assertEqual(book.lines, ("symbols a 0 b 0 g 0 pair 2", "pair(b, _) => _", "pair(a, b) => _", "g => _"))
        for given in BOOKS:
            names = {word: word * 2 for word in given.symbols}
            back = {name: word for word, name in names.items()}
            self.assertEqual(given.renamed(names).renamed(back), given)
            self.assertEqual(given.renamed({word: word for word in given.symbols}), given)

    def test_renamed_by_wrong_names(self):
        good = {"a": "b", "b": "a", "f": "h", "g": "k"}
        for wrong in [{**good, "c": "d"}, {"a": "b", "b": "a", "f": "h"}, {**good, "g": "h"}, {**good, "g": "_"},
                      {**good, "g": "abcdefghi"}, {**good, "g": None}, {**good, "g": []}, *all_kinds()]:
            self.assertIs(type(raised(SEQ.renamed, wrong)), InvalidOperation)


class More(unittest.TestCase):
    def test_knows_more(self):
        chance = random.Random(42)
        for book in BOOKS:
            self.assertTrue(book.knows_more(book))
            if len(book) == 0:
                continue
            rule = chance.randrange(len(book))
            other = book.with_sketch(rule, chance_term(chance, book.symbols, 4))
            for one, two in [(book, other), (other, book)]:
                told = fits(nested(one.sketches[rule].nodes), nested(two.sketches[rule].nodes))
                self.assertIs(one.knows_more(two), told)

    def test_other_patterns_or_symbols(self):
        for value in no_books() + [SEQ.without(0), SEQ.with_symbol("h", 0), Book(SEQ.symbols, SEQ.rules[::-1]),
                                   SEQ.with_rule(term("a"), term("_")), COND, SEQ.with_sketch(0, term("a"))]:
            self.assertIs(SEQ.knows_more(value), False)
        self.assertIs(SEQ.with_sketch(0, term("a")).knows_more(SEQ), True)


class Joined(unittest.TestCase):
    def test_symbols_and_rules_of_both(self):
        one = Book.read("symbols a 0 f 2", "f(a, _) => a", "f(_, a) => _")
        two = Book.read("symbols a 0 b 0 f 2", "b => a", "f(_, a) => _", "f(a, a) => b")
        self.assertEqual((one | two).lines, ("symbols a 0 b 0 f 2", "f(a, _) => a", "f(_, a) => _", "b => a",
                                             "f(a, a) => b"))
        self.assertEqual((two | one).lines, ("symbols a 0 b 0 f 2", "b => a", "f(_, a) => _", "f(a, a) => b",
                                             "f(a, _) => a"))

    def test_with_itself(self):
        for book in BOOKS:
            self.assertEqual(book | book, book)
            self.assertEqual(book | Book(book.symbols), book)
            self.assertEqual(Book(book.symbols) | book, book)

    def test_no_books(self):
        for value in no_books():
            self.assertIs(type(raised(lambda: SEQ | value)), InvalidOperation)

    def test_a_word_with_two_arities(self):
        self.assertIs(type(raised(lambda: SEQ | GUS)), InvalidOperation)
        self.assertIs(type(raised(lambda: SEQ | Book({"a": 0, "g": 1}))), InvalidOperation)

    def test_no_such_book(self):
        for other in [SEQ.with_sketch(1, term("a")), Book({letter: 0 for letter in "acdehijk"}),
                      Book(SEQ.symbols, read_rules("a => _", "b => _", "f(_, _) => a", "f(g, _) => a"))]:
            self.assertIs(type(raised(lambda: SEQ | other)), InvalidBook)

    def test_two_errors_at_once(self):
        many = Book({"a": 1, **{letter: 0 for letter in "cdehijk"}})
        self.assertIs(type(raised(lambda: SEQ | many)), InvalidOperation)


class Unchanged(unittest.TestCase):
    def test_the_book_stays_as_it_is(self):
        for book in BOOKS:
            lines = book.lines
            if len(book.symbols) < 8:
                book.with_symbol("h", book.symbols.get("h", 0))
            for rule in range(len(book)):
                book.without(rule)
                book.with_sketch(rule, Term.build("_"))
            self.assertEqual(book.lines, lines)

    def test_terms_are_taken_over(self):
        rules = tuple(zip(terms("a"), terms("_")))
        self.assertEqual(Book({"a": 0}, rules).rules, rules)


if __name__ == "__main__":
    unittest.main()
