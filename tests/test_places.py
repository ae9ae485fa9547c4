"""[0.12], [0.16], [8.1]: needed places, and what shows that they are needed or not."""

import random
import unittest

from firstneed.base.books import Book
from firstneed.errors import InvalidBook, InvalidOperation, InvalidTerm, TooMany, UnknownPlace, UnknownWord
from firstneed.need.classes import result_classes
from firstneed.need.lines import Lines, is_shown
from firstneed.need.places import (Need, around, asked_places, is_needed, is_needed_paper, is_spared_paper,
                                   needed_paper, needed_places, next_place, spared_paper, strict_arguments)
from firstneed.need.tables import Table, anything
from tests.helper import all_kinds, parts_of, raised, term_of
from tests.samples import COND, GUS, LARGE, PLUS, SEQ, SPECIAL, chance_books, chance_term, no_books, term
from tests.slow import States, few_trees, is_redex, is_result, nested, reached, with_tree
from tests.test_ways import walked

LISTED = ("holed", "replaced", "__contains__", "__len__", "__iter__", "__eq__", "__str__")
PROPERTIES = ("book", "term", "needed", "asks", "both", "root_state", "is_done")
BOOKS = chance_books(91, 90)
EMPTY = Book.read("symbols a 0 f 2", "a => _", "f(_, _) => a")
HASH = term("#")
CALLS = (is_needed, needed_paper, spared_paper, around)
JUDGES = (is_needed_paper, is_spared_paper)


def no_terms():
    """Values that are no terms of SEQ and the leaf `_`."""
    wrong = [value for value in all_kinds() if value not in (term("a"), term("_"))]
    return wrong + [term("h"), term("f(a)"), term("g(a)"), HASH, term("f(#, a)"), SEQ]


def no_places(one):
    return [-1, len(one), True, False, None, "0", (0,), [], 10 ** 60]


class Interface(unittest.TestCase):
    def test_interface(self):
        for name in LISTED:
            self.assertIn(name, vars(Need))
        for name in PROPERTIES:
            self.assertTrue(hasattr(Need(SEQ, term("a")), name))


class Needed(unittest.TestCase):
    def test_by_the_states_of_a_second_reading(self):
        chance = random.Random(92)
        for book in BOOKS:
            slow = States(book, result_classes(book)).close()
            for leaves in [("_",), ()]:
                one = chance_term(chance, book.symbols, chance.choice([3, 8, 25]), leaves=leaves)
                tree = nested(one.nodes)
                needed, need = [], Need(book, one)
                for at in range(len(one)):
                    state = slow.told(with_tree(tree, at, ("#",)))
                    self.assertEqual(need.holed(at), state)
                    self.assertIs(is_needed(book, one, at), state[1] == ())
                    if state[1] == ():
                        needed.append(at)
                asked = [at for at, inner in enumerate(parts_of(tree)) if inner == ("_",) or is_redex(book, inner)]
                both = [at for at in asked if at in needed]
                self.assertEqual([needed_places(book, one), asked_places(book, one)], [tuple(needed), tuple(asked)])
                self.assertEqual(next_place(book, one), both[0] if both else None)
                self.assertEqual([need.needed, need.asks, need.both], [tuple(needed), tuple(asked), tuple(both)])
                self.assertEqual([need.root_state, need.is_done], [slow.told(tree), asked == []])

    def test_by_all_ways_of_small_terms(self):
        spared = 0
        for book in SPECIAL + BOOKS[-20:]:
            small = few_trees(book.symbols, 6)
            for tree in few_trees(book.symbols, 15, ("_",)):
                for at in range(len(parts_of(tree))):
                    ends = reached(book, with_tree(tree, at, ("#",)), small, 7, 40)
                    if any(is_result(book, end) for end in ends):
                        self.assertIs(is_needed(book, term_of(tree), at), False, (book.lines, tree, at))
                        spared += 1
        self.assertTrue(spared > 50, spared)

    def test_examples_of_each_kind(self):
        self.assertEqual(needed_places(SEQ, term("f(g, g)")), (0, 1))
        self.assertEqual([needed_places(GUS, term("f(g, g, g)")), needed_places(COND, term("c(_, t, _)"))],
                         [(0,), (0, 1)])
        self.assertEqual(needed_places(COND, term("c(k(_), _, k(n))")), (0, 1))
        self.assertEqual([needed_places(SEQ, term(text)) for text in ("a", "_", "g", "f(b, _)")],
                         [(0,)] * 3 + [(0, 1, 2)])
        self.assertEqual(needed_places(PLUS.full(), term("add(s(o), dup(o))")), (0, 1))

    def test_without_results_each_place_is_needed(self):
        for text in ("a", "f(a, a)", "f(_, f(a, _))"):
            self.assertEqual(needed_places(EMPTY, term(text)), tuple(range(len(term(text)))))
            self.assertEqual(next_place(EMPTY, term(text)), 0)

    def test_what_is_true(self):
        chance = random.Random(93)
        for book in BOOKS:
            one = chance_term(chance, book.symbols, 12, leaves=chance.choice([("_",), ()]))
            need = Need(book, one)
            # [0.22]: above a needed place all are needed, and the root always is.
            self.assertIn(0, need)
            for at in need:
                self.assertTrue(set(one.above(at)) <= set(need.needed))
            redexes = book.redexes(one)
            if one.is_ground and (len(redexes) == 1 or 0 in redexes):
                self.assertIn(redexes[0], need)
            # [0.20]: what is needed in a book is needed in those that know more.
            self.assertTrue(set(Need(book.strong(), one).needed) <= set(need.needed))

    def test_strict_arguments(self):
        self.assertEqual([strict_arguments(SEQ, "f"), strict_arguments(GUS, "f"), strict_arguments(COND, "c")],
                         [(0,), (), (0,)])
        for book in BOOKS:
            for word, arity in book.symbols.items():
                one = term_of((word, *[("_",)] * arity))
                found = tuple(at for at in range(arity) if at + 1 in needed_places(book, one))
                self.assertEqual(strict_arguments(book, word), found)


class Papers(unittest.TestCase):
    def test_papers_and_ways(self):
        chance = random.Random(94)
        seen = {True: 0, False: 0}
        for book in BOOKS * 3:
            one = chance_term(chance, book.symbols, 9, leaves=chance.choice([("_",), ()]))
            greatest = {key: anything(book) for key in Table(book).mapping}
            for at in range(len(one)):
                needed = is_needed(book, one, at)
                seen[needed] += 1
                self.check_needed(book, one, at) if needed else self.check_spared(book, one, at)
                told = Table(book, greatest).state(one.with_part(at, HASH))[1] == ()
                self.assertIs(is_needed_paper(book, one, at, greatest), told)
                self.assertIs(is_needed_paper(book, one, at, Table(book, greatest)), told)
        self.assertTrue(min(seen.values()) > 40, seen)

    def check_needed(self, book, one, at):
        paper = needed_paper(book, one, at)
        self.assertEqual([list(paper), Table(book, paper).state(one.with_part(at, HASH))[1]], [sorted(paper), ()])
        self.assertIs(is_needed_paper(book, one, at, paper), True)
        self.assertIs(is_needed_paper(book, one, at, Table(book)), True)
        for call in (spared_paper, around):
            self.assertIs(type(raised(call, book, one, at)), InvalidOperation)

    def check_spared(self, book, one, at):
        holed, paper = one.with_part(at, HASH), spared_paper(book, one, at)
        self.assertIsInstance(paper, tuple)
        self.assertIs(is_spared_paper(book, one, at, paper), True)
        self.assertEqual([paper[-1][0], paper[-1][1][0]], [("term", 0), "res"])
        self.assertIs(is_shown(book, holed, 0, paper[-1][1], paper), True)
        self.assertTrue(is_result(book, walked(book, holed, around(book, one, at))))
        self.assertIs(type(raised(needed_paper, book, one, at)), InvalidOperation)
        for value in (Table(book), Table(book).mapping):
            self.assertIs(is_needed_paper(book, one, at, value), False)

    def test_needed_papers_that_are_none(self):
        one, good = term("f(g, g)"), Table(SEQ).mapping
        self.assertIs(is_needed_paper(SEQ, one, 1, good), True)
        for value in [*all_kinds(), SEQ, Table(GUS), Table(SEQ.with_symbol("h", 0)), {**good, (3, 0): good[(0, 0)]},
                      {key: good[key] for key in list(good)[1:]}, {**good, (0, 0): ((), ())}, list(good.items()),
                      {(True if rule == 1 else rule, 0): state for (rule, _), state in good.items()}]:
            self.assertIs(is_needed_paper(SEQ, one, 1, value), False)
        self.assertIs(is_needed_paper(SEQ, one, 1, Table(Book.read(*SEQ.lines))), True)
        self.assertIs(is_needed_paper(SEQ, one, 2, good), False)

    def test_spared_papers_that_are_none(self):
        one = term("f(g, g)")
        good = spared_paper(SEQ, one, 2)
        self.assertIs(is_spared_paper(SEQ, one, 2, good), True)
        longer = (good[0], *[(*row[:3], tuple(use + 1 for use in row[3])) for row in good])
        self.assertIs(is_spared_paper(SEQ, one, 2, longer), True)
        inner = (("rule", 2, 0), ("res", (0,)), None, ())
        can = (*good, (("rule", 2, 0), ("can", 0), None, ()), (("term", 1), ("can", 0), 2, (len(good),)))
        for value in [*all_kinds(), list(good), good[:-1], (*good, inner), can, good[::-1],
                      Lines(SEQ, term("f(g, #)"), good)]:
            self.assertIs(is_spared_paper(SEQ, one, 2, value), False)
        self.assertIs(is_spared_paper(SEQ, one, 1, good), False)

    def test_ways_around_beyond_the_bounds(self):
        book = Book.read("symbols a 0 b 0 f 2 g 1", "a => f(b, b)", "g(_) => b")
        one = term("f(g(a), f(a, " + "f(a, " * 16 + "a" + ")" * 18)
        self.assertIs(is_needed(book, one, 2), False)
        error = raised(around, book, one, 2)
        self.assertEqual((type(error), error.limit), (TooMany, 200))
        self.assertIs(is_spared_paper(book, one, 2, spared_paper(book, one, 2)), True)


class Needs(unittest.TestCase):
    def test_told(self):
        need = Need(COND, term("c(k(t), k(t), k(t))"))
        self.assertEqual([need.book, need.term, str(need), len(need), list(need)],
                         [COND, term("c(k(t), k(t), k(t))"), "7 nodes, 2 needed, 1 of 3 asked", 2, [0, 1]])
        self.assertEqual([need.root_state, need.holed(1), need.holed(3)[1]],
                         [((0, 1), ((0,), (1,))), ((), ()), ((0,), (1,))])

    def test_places_in_it(self):
        chance = random.Random(95)
        for book in BOOKS:
            need = Need(book, chance_term(chance, book.symbols, 6))
            for value in [*all_kinds(), *range(8)]:
                told = isinstance(value, int) and not isinstance(value, bool) and value in need.needed
                self.assertIs(value in need, told)
            self.assertEqual([tuple(need), len(need)], [need.needed, len(need.needed)])

    def test_replaced(self):
        chance = random.Random(96)
        for book in BOOKS:
            one, other = (chance_term(chance, book.symbols, 6) for _ in range(2))
            at = chance.randrange(len(one))
            need = Need(book, one).replaced(at, other)
            self.assertEqual(need, Need(book, one.with_part(at, other)))
            self.assertEqual([need.needed, need.term], [needed_places(book, need.term), one.with_part(at, other)])

    def test_errors(self):
        need = Need(SEQ, term("f(g, a)"))
        for wrong in no_places(need.term):
            error = raised(need.holed, wrong)
            self.assertEqual((type(error), error.spot), (UnknownPlace, wrong))
            error = raised(need.replaced, wrong, 5)
            self.assertEqual((type(error), error.spot), (UnknownPlace, wrong))
        for wrong in no_terms():
            self.assertIs(type(raised(need.replaced, 1, wrong)), InvalidTerm)
        long = term("f(a, " * 19 + "a" + ")" * 19)
        self.assertEqual(len(long), 39)
        self.assertIs(type(raised(need.replaced, 1, long)), InvalidTerm)
        self.assertEqual(len(need.replaced(0, long).term), 39)

    def test_equality(self):
        need = Need(SEQ, term("f(g, a)"))
        for value in [*all_kinds(), SEQ, need.term, need.needed, Need(SEQ, term("f(g, b)")),
                      Need(SEQ.with_symbol("h", 0), need.term)]:
            self.assertFalse(need == value)
            self.assertTrue(need != value)
        self.assertEqual(need, Need(Book.read(*SEQ.lines), term("f(g, a)")))


class Errors(unittest.TestCase):
    def test_books(self):
        for value in no_books():
            for call in CALLS:
                self.assertIs(type(raised(call, value, 5, 5)), InvalidBook)
            for call in JUDGES:
                self.assertIs(type(raised(call, value, 5, 5, 5)), InvalidBook)
            for call in (needed_places, asked_places, next_place, strict_arguments, Need):
                self.assertIs(type(raised(call, value, 5)), InvalidBook)

    def test_terms(self):
        for value in no_terms():
            for call in CALLS:
                self.assertIs(type(raised(call, SEQ, value, 5)), InvalidTerm)
            for call in JUDGES:
                self.assertIs(type(raised(call, SEQ, value, 5, 5)), InvalidTerm)
            for call in (needed_places, asked_places, next_place, Need):
                self.assertIs(type(raised(call, SEQ, value)), InvalidTerm)

    def test_places(self):
        one = term("f(g, _)")
        for wrong in no_places(one):
            for call in CALLS:
                error = raised(call, SEQ, one, wrong)
                self.assertEqual((type(error), error.spot), (UnknownPlace, wrong))
            for call in JUDGES:
                error = raised(call, SEQ, one, wrong, 5)
                self.assertEqual((type(error), error.spot), (UnknownPlace, wrong))

    def test_words(self):
        for wrong in ["h", "_", "#", "", None, 0, (), [], {}, True]:
            error = raised(strict_arguments, SEQ, wrong)
            self.assertEqual((type(error), error.asked), (UnknownWord, wrong))


class Speed(unittest.TestCase):
    def test_large_books_and_terms(self):
        chance = random.Random(97)
        for _ in range(5):
            one = chance_term(chance, LARGE.symbols, 40, share=0.1)
            need = Need(LARGE, one)
            for at in range(len(one)):
                paper = needed_paper if at in need else spared_paper
                self.assertTrue(paper(LARGE, one, at))


if __name__ == "__main__":
    unittest.main()
