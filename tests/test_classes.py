"""[0.14], [5.1], [5.2]: parts, classes and results."""

import random
import unittest

from firstneed.base.books import Book
from firstneed.base.terms import Term
from firstneed.errors import InvalidBook, InvalidNumber, InvalidOperation, InvalidTerm, TooMany, UnknownWord
from firstneed.need.classes import (class_made, class_of, fires, is_class, is_closed_row, is_redex_made, is_result,
                                    is_result_paper, least_result, parts_of, result_classes, result_paper,
                                    results_upto)
from tests import slow
from tests.helper import all_kinds, raised, size_of, term_of, text_of
from tests.samples import COND, GUS, LARGE, SEQ, SPECIAL, chance_books, chance_term, no_books, term
from tests.slow import all_result_classes, book_parts, nested

BOOKS = chance_books(51, 90)
EMPTY = Book.read("symbols a 0 f 2", "a => _", "f(_, _) => a")
# So much is a redex here that the least results of some classes are large.
VAST = Book.read("symbols a 0 f 3 g 1", "g(a) => a", "f(_, _, f(a, _, _)) => a", "g(f(_, _, a)) => a",
                 "f(a, _, f(_, _, _)) => a", "g(f(g(_), g(_), _)) => a", "f(f(a, a, a), a, _) => a")


def list_of(book, size):
    return list(results_upto(book, size))


def no_classes(book):
    """Values that are no classes of the book."""
    many = len(parts_of(book))
    return [value for value in all_kinds() if value != ()] + [(many,), (0, many), (0, 0), (1, 0), (-1,), (True,),
                                                              (False,), (0, True), [0], (10 ** 59,), ((0,),)]


class Parts(unittest.TestCase):
    def test_by_the_second_reading(self):
        for book in BOOKS:
            self.assertEqual([part.text for part in parts_of(book)], [text_of(tree) for tree in book_parts(book)])

    def test_a_whole_pattern_that_is_a_part_of_another_one(self):
        book = Book.read("symbols a 0 b 0 f 2", "f(f(a, _), b) => a", "f(a, _) => b", "b => b")
        self.assertEqual([part.text for part in parts_of(book)], ["a", "b", "f(a, _)"])
        self.assertEqual([part.text for part in parts_of(book.without(0))], ["a"])

    def test_ascending_by_texts(self):
        self.assertEqual([part.text for part in parts_of(LARGE)],
                         ["a", "b", "c", "d", "f(_, c)", "f(a, b)", "g(a)", "g(k(_))", "k(_)", "k(b)"])

    def test_no_books(self):
        for value in no_books():
            for call in (lambda: parts_of(value), lambda: class_of(value, 5), lambda: class_made(value, 5, 5),
                         lambda: is_redex_made(value, 5, 5), lambda: fires(value, 5, 5), lambda: is_class(value, 5),
                         lambda: is_result(value, 5), lambda: result_classes(value), lambda: least_result(value, 5),
                         lambda: list_of(value, -1), lambda: result_paper(value), lambda: is_result_paper(value, 5),
                         lambda: is_closed_row(value, 5)):
                self.assertIs(type(raised(call)), InvalidBook)


class Classes(unittest.TestCase):
    def test_of_terms_by_the_second_reading(self):
        chance = random.Random(52)
        for book in BOOKS:
            for leaves in [(), ("_", "#")]:
                one = chance_term(chance, book.symbols, chance.choice([3, 9, 30]), leaves=leaves)
                self.assertEqual(class_of(book, one), slow.class_of(book, nested(one.nodes)))

    def test_leaves_are_instances_of_anything_alone(self):
        book = Book.read("symbols a 0 f 2 g 1", "g(f(a, _)) => a", "g(f(_, _)) => a")
        self.assertEqual([class_of(book, term(text)) for text in ("_", "#", "f(_, #)", "f(a, #)", "a")],
                         [(), (), (1,), (1, 2), (0,)])

    def test_wrong_terms(self):
        for value in all_kinds() + [term("h"), term("f(a)"), SEQ]:
            if value not in (term("a"), term("_")):
                self.assertIs(type(raised(class_of, SEQ, value)), InvalidTerm)
                self.assertIs(type(raised(is_result, SEQ, value)), InvalidTerm)

    def test_is_result(self):
        chance = random.Random(53)
        for book in BOOKS:
            for leaves in [(), (), ("_", "#")]:
                one = chance_term(chance, book.symbols, 6, leaves=leaves)
                self.assertIs(is_result(book, one), slow.is_result(book, nested(one.nodes)))

    def test_is_class(self):
        for book in [SEQ, GUS, LARGE, Book({"a": 0})]:
            many = len(parts_of(book))
            for value in [(), tuple(range(many)), *[(at,) for at in range(many)]]:
                self.assertIs(is_class(book, value), True)
            for value in no_classes(book):
                self.assertIs(is_class(book, value), False, value)


class MadeOfClasses(unittest.TestCase):
    def test_the_class_of_a_term_follows_from_those_of_its_arguments(self):
        chance = random.Random(54)
        for book in BOOKS:
            for _ in range(5):
                one = chance_term(chance, book.symbols, 9, leaves=chance.choice([(), ("_", "#")]))
                if one.text in ("_", "#"):
                    continue
                word = one.nodes[0][0]
                classes = tuple(class_of(book, one.part(at)) for at in one.children(0))
                self.assertEqual(class_made(book, word, classes), class_of(book, one))
                self.assertIs(is_redex_made(book, word, classes), 0 in book.redexes(one))
                for rule, (pattern, _) in enumerate(book):
                    if pattern.nodes[0][0] == word:
                        self.assertIs(fires(book, rule, classes), rule in book.rules_at(one, 0))

    def test_classes_of_no_term(self):
        for book in [GUS, LARGE, SPECIAL[-1]]:
            states = slow.States(book, ())
            chance = random.Random(55)
            for _ in range(40):
                word = chance.choice(list(book.symbols))
                classes = tuple(tuple(at for at in range(len(states.parts)) if chance.random() < 0.6)
                                for _ in range(book.symbols[word]))
                below = [(set(row), set()) for row in classes]
                fitting = [states.fits(word, pattern, below) for pattern, _ in states.rules]
                made = tuple(at for at, part in enumerate(states.parts) if states.fits(word, part, below))
                self.assertEqual(class_made(book, word, classes), made)
                self.assertIs(is_redex_made(book, word, classes), any(fitting))
                for rule, (pattern, _) in enumerate(states.rules):
                    if len(pattern) - 1 == len(classes):
                        told = all(states.has(*pair) for pair in zip(pattern[1:], below))
                        self.assertIs(fires(book, rule, classes), told)

    def test_errors_in_their_order(self):
        for call in (class_made, is_redex_made):
            for wrong in [value for value in all_kinds() if value not in ("a", "f")] + ["h", "_"]:
                error = raised(call, SEQ, wrong, 5)
                self.assertEqual(type(error), UnknownWord)
                self.assertTrue(error.asked is wrong or error.asked == wrong)
            for wrong in no_classes(SEQ):
                self.assertIs(type(raised(call, SEQ, "f", (wrong, ()))), InvalidOperation)
                self.assertIs(type(raised(call, SEQ, "f", ((), wrong))), InvalidOperation)
            for wrong in [*all_kinds(), ((),), ((), (), ()), [(), ()], (0, 1), ((0,), 1)]:
                self.assertIs(type(raised(call, SEQ, "f", wrong)), InvalidOperation)
            self.assertIs(type(raised(call, SEQ, "a", ((),))), InvalidOperation)
        for wrong in [-1, 3, True, False, None, "0", (0,), [], 10 ** 60]:
            error = raised(fires, SEQ, wrong, 5)
            self.assertEqual((type(error), error.number), (InvalidNumber, wrong))
        for wrong in [*all_kinds(), ((),), ((), (), ()), [(), ()], ((), (2,)), ((True,), ())]:
            self.assertIs(type(raised(fires, SEQ, 0, wrong)), InvalidOperation)
        self.assertIs(type(raised(fires, SEQ, 2, ((),))), InvalidOperation)
        self.assertIs(fires(SEQ, 2, ()), True)


class Results(unittest.TestCase):
    def test_classes_of_results(self):
        for book in BOOKS:
            self.assertEqual(result_classes(book), all_result_classes(book))
        self.assertEqual([result_classes(EMPTY), result_classes(Book({"a": 0}))], [(), ((),)])

    def test_all_small_results(self):
        for book in BOOKS:
            most = max([size for size in range(8) if len(slow.trees_upto(book.symbols, size)) < 300])
            trees = [tree for tree in slow.trees_upto(book.symbols, most) if slow.is_result(book, tree)]
            ranked = sorted(trees, key=lambda tree: (size_of(tree), text_of(tree)))
            self.assertEqual([one.text for one in results_upto(book, most)], [text_of(tree) for tree in ranked])
            known = result_classes(book)
            self.assertTrue(all(class_of(book, term_of(tree)) in known for tree in trees))

    def test_sizes_from_0_to_7(self):
        book = Book({"a": 0, "f": 1})
        for size in range(8):
            self.assertEqual([len(one) for one in results_upto(book, size)], list(range(1, size + 1)))
        self.assertEqual(list_of(EMPTY, 7), [])
        for wrong in [-1, 8, True, False, None, "1", (1,), [], 10 ** 60]:
            error = raised(list_of, book, wrong)
            self.assertEqual((type(error), error.number), (InvalidNumber, wrong))

    def test_errors_come_with_the_first_element(self):
        waiting = results_upto(None, 9)
        self.assertIs(type(raised(next, waiting)), InvalidBook)
        waiting = results_upto(SEQ, 9)
        self.assertIs(type(raised(next, waiting)), InvalidNumber)

    def test_least_results(self):
        for book in BOOKS:
            sizes = least_sizes(book)
            self.assertEqual(tuple(sorted(sizes)), result_classes(book))
            for row, size in sizes.items():
                one = least_result(book, row)
                self.assertTrue(is_result(book, one))
                self.assertEqual([class_of(book, one), len(one)], [row, size])

    def test_errors_of_least_results(self):
        for book in [SEQ, GUS, EMPTY, LARGE]:
            known = result_classes(book)
            for wrong in no_classes(book) + [tuple(range(len(parts_of(book)))), ()]:
                if wrong not in known:
                    self.assertIs(type(raised(least_result, book, wrong)), InvalidOperation)

    def test_least_results_beyond_forty_nodes(self):
        sizes = least_sizes(VAST)
        self.assertTrue(min(sizes.values()) < 40 < max(sizes.values()))
        for row, size in sizes.items():
            if size > 40:
                error = raised(least_result, VAST, row)
                self.assertEqual((type(error), error.limit), (TooMany, 40))
            else:
                self.assertEqual(len(least_result(VAST, row)), size)


def least_sizes(book):
    """The least sizes of the results of each class, by rounds over classes."""
    sizes = {}
    states = slow.States(book, ())
    while True:
        before = dict(sizes)
        for word, arity in book.symbols.items():
            for classes in slow.product(*[list(before)] * arity):
                inner = [(set(one), set()) for one in classes]
                if not any(states.fits(word, pattern, inner) for pattern, _ in states.rules):
                    made = tuple(at for at, part in enumerate(states.parts) if states.fits(word, part, inner))
                    size = 1 + sum(before[one] for one in classes)
                    sizes[made] = min(size, sizes.get(made, size))
        if before == sizes:
            return sizes


class Papers(unittest.TestCase):
    def test_papers(self):
        for book in BOOKS:
            paper = result_paper(book)
            self.assertEqual(list(paper), list(result_classes(book)))
            self.assertIs(is_result_paper(book, paper), True)
            for row, (word, classes) in paper.items():
                self.assertEqual(class_made(book, word, classes), row)
                self.assertIs(is_redex_made(book, word, classes), False)
                self.assertTrue(all(inner in paper for inner in classes))
        self.assertEqual(result_paper(COND), {(0,): ("n", ()), (1,): ("t", ())})

    def test_other_correct_papers(self):
        book = Book.read("symbols a 0 b 0 f 1 g 1", "f(f(_)) => a")
        self.assertEqual(result_classes(book), ((), (0,)))
        for row in [("a", ()), ("b", ()), ("g", ((0,),))]:
            for other in [("f", ((),))]:
                self.assertIs(is_result_paper(book, {(0,): other, (): row}), row != ("g", ((0,),)))
        self.assertIs(is_result_paper(book, {(0,): ("f", ((),)), (): ("g", ((),))}), False)

    def test_wrong_papers(self):
        good = result_paper(SEQ)
        self.assertEqual(good, {(): ("f", ((1,), (1,))), (0,): ("a", ()), (1,): ("b", ())})
        for value in all_kinds() + [good | {(): word} for word in all_kinds()]:
            self.assertIs(is_result_paper(SEQ, value), False)
        for change in [{(): ("f", ((0,), (1,)))}, {(): ("f", ((1,),))}, {(): ("f", [(1,), (1,)])},
                       {(): ["f", ((1,), (1,))]},
                       {(): ("a", ())}, {(): ("h", ())}, {(): ("_", ())}, {(): (("f",), ((1,), (1,)))},
                       {(0, 1): ("a", ())},
                       {(): ("f", ((True,), (1,)))}, {(): ("f", ((1,), (5,)))}, {(): ("f", ((1,), (1,)), ())},
                       {(): ("f", ((), ()))}, {(1,): ("a", ())}, {(0,): ("b", ())}, {(): ("g", ())}, {"a": ("a", ())}]:
            self.assertIs(is_result_paper(SEQ, {**good, **change}), False, change)
        for row in good:
            self.assertIs(is_result_paper(SEQ, {key: good[key] for key in good if key != row}), False)
        renamed = {(True,) if key == (1,) else key: row for key, row in good.items()}
        self.assertIs(is_result_paper(SEQ, renamed), False)
        self.assertIs(is_result_paper(EMPTY, {}), True)
        self.assertIs(is_result_paper(EMPTY, {(): ("a", ())}), False)

    def test_the_order_of_a_paper_has_no_effect(self):
        for book in BOOKS[:20]:
            paper = result_paper(book)
            self.assertIs(is_result_paper(book, dict(reversed(paper.items()))), True)


class ClosedRows(unittest.TestCase):
    def test_the_classes_of_results_are_closed(self):
        for book in BOOKS:
            rows = result_classes(book)
            self.assertIs(is_closed_row(book, rows), True)
            for row in rows:
                # The least closed row is that of the results.
                self.assertIs(is_closed_row(book, tuple(one for one in rows if one != row)), False)

    def test_all_rows_of_small_books(self):
        for book in [SEQ, COND, SPECIAL[5], SPECIAL[9], EMPTY, SPECIAL[10]]:
            states = slow.States(book, ())
            many = len(states.parts)
            classes = sorted(tuple(at for at in range(many) if bits >> at & 1) for bits in range(2 ** many))
            chance = random.Random(56)
            for _ in range(60):
                row = tuple(one for one in classes if chance.random() < 0.6)
                made = set()
                for word, arity in book.symbols.items():
                    for inner in slow.product(*[row] * arity):
                        below = [(set(one), set()) for one in inner]
                        if not any(states.fits(word, pattern, below) for pattern, _ in states.rules):
                            made.add(tuple(at for at in range(many) if states.fits(word, states.parts[at], below)))
                self.assertIs(is_closed_row(book, row), made <= set(row))
            self.assertIs(is_closed_row(book, tuple(classes)), True)

    def test_wrong_rows(self):
        rows = result_classes(SEQ)
        for value in all_kinds():
            self.assertIs(is_closed_row(SEQ, value), False)
        for value in [rows[::-1], list(rows), (*rows, rows[-1]), (*rows, (2,)), ((), (0,), (True,)), ((), [0], (1,)),
                      (*rows, "a"), {row: True for row in rows}]:
            self.assertIs(is_closed_row(SEQ, value), False)
        self.assertIs(is_closed_row(SEQ, ((), (0,), (0, 1), (1,))), True)
        self.assertIs(is_closed_row(EMPTY, ()), True)

    def test_many_classes_at_once(self):
        book = LARGE
        many = len(parts_of(book))
        classes = sorted(tuple(at for at in range(many) if bits >> at & 1) for bits in range(2 ** many))
        self.assertIs(is_closed_row(book, tuple(classes)), True)


class Unchanged(unittest.TestCase):
    def test_equal_calls_return_equal_results(self):
        for book in BOOKS[:20]:
            self.assertEqual(result_paper(book), result_paper(Book.read(*book.lines)))
            result_paper(book).clear()
            self.assertTrue(is_result_paper(book, result_paper(book)))
            self.assertTrue(all(isinstance(part, Term) for part in parts_of(book)))


if __name__ == "__main__":
    unittest.main()
