"""[7.3]: ways, how lines make them, and how they are judged."""

import random
import unittest

from firstneed.base.books import Book
from firstneed.errors import InvalidBook, InvalidOperation, InvalidTerm, TooMany
from firstneed.need.classes import parts_of as parts_of_book
from firstneed.need.classes import result_classes
from firstneed.need.lines import Lines, end_of, is_way, round_of, shown
from tests.helper import all_kinds, chain, fits, parts_of, raised, size_of, term_of
from tests.samples import LARGE, SEQ, SPECIAL, chance_books, chance_term, no_books, term
from tests.slow import class_of, filled_trees, is_ground, is_result, nested, rules_of, with_tree
from tests.test_lines import GROWING, HELD, ROWS, facts_of, no_facts

BOOKS = chance_books(81, 60)
A, B = term("a"), term("b")
CHAIN = Book.read("symbols a 0 b 0 f 2 g 1", "g(a) => a", "f(a, _) => f(b, _)", "b => _")


def walked(book, one, way):
    """[7.3] by a second reading: the end of a way from the term as a nested tree; fails if it is none."""
    start, steps = way
    tree, rules = nested(start.nodes), rules_of(book)
    assert fits_start(tree, nested(one.nodes)) and isinstance(steps, tuple) and len(steps) <= 200
    for at, rule, put in steps:
        pattern, sketch = rules[rule]
        assert fits(parts_of(tree)[at], pattern) and fits(nested(put.nodes), sketch) and put.is_ground
        tree = with_tree(tree, at, nested(put.nodes))
        assert size_of(tree) <= 40
    return tree


def fits_start(tree, general):
    """Whether a tree is another one with ground terms in the place of its leaves `_`."""
    if general[0] == "_":
        return is_ground(tree)
    if tree[0] != general[0] or len(tree) != len(general):
        return False
    return all(fits_start(one, other) for one, other in zip(tree[1:], general[1:]))


def is_end(book, tree, fact):
    """Whether the fact holds of a tree."""
    kind, what = fact
    return what in class_of(book, tree) if kind == "can" else is_result(book, tree) and class_of(book, tree) == what


class OfLines(unittest.TestCase):
    def test_ways_of_facts(self):
        chance = random.Random(82)
        steps = set()
        for book in [*BOOKS, *[GROWING] * 20]:
            for leaves in [("_", "#"), ()]:
                one = chance_term(chance, book.symbols, chance.choice([2, 5, 9]), leaves=leaves)
                for fact in facts_of(book):
                    if round_of(book, one, 0, fact) is not None:
                        lines = shown(book, one, 0, fact)
                        way = lines.way()
                        self.assertTrue(is_end(book, walked(book, one, way), fact))
                        self.assertIs(is_way(book, one, fact, way), True)
                        self.assertEqual(nested(end_of(book, one, way).nodes), walked(book, one, way))
                        self.assertEqual(way, lines.way())
                        steps.add(len(way[1]))
        self.assertTrue({0, 1, 2, 3} <= steps and max(steps) >= 5, steps)

    def test_ways_of_other_lines(self):
        rows = (*ROWS[:2], (("rule", 0, 0), ("res", ()), None, ()), (("term", 0), ("res", ()), 0, (1, 2)))
        way = Lines(SEQ, HELD, rows).way()
        self.assertTrue(is_end(SEQ, walked(SEQ, HELD, way), ("res", ())))
        # These lines go round about: a becomes b, which becomes a again.
        book = Book.read("symbols a 0 b 0 g 1", "a => b", "b => a", "g(b) => a")
        self.assertEqual(facts_of(book)[:1], [("can", 0)])
        rows = ((("rule", 0, 0), ("can", 0), None, ()), (("rule", 1, 0), ("can", 0), 0, (0,)),
                (("rule", 0, 0), ("can", 0), 1, (1,)), (("term", 0), ("can", 0), 0, (2,)))
        way = Lines(book, A, rows).way()
        self.assertTrue(is_end(book, walked(book, A, way), ("can", 0)))

    def test_leaves_stand_for_what_is_asked(self):
        book = Book.read("symbols a 0 b 0 c 0 f 2", "f(f(b, c), _) => a")
        self.assertEqual([part.text for part in parts_of_book(book)], ["b", "c", "f(b, c)"])
        for text, fact in [("_", ("can", 2)), ("f(_, _)", ("res", ())), ("_", ("res", (2,))), ("f(_, c)", ("can", 2))]:
            way = shown(book, term(text), 0, fact).way()
            self.assertTrue(is_end(book, walked(book, term(text), way), fact))
        self.assertEqual(shown(book, term("_"), 0, ("can", 2)).way(), (term("f(b, c)"), ()))

    def test_only_of_the_root(self):
        for rows in [ROWS[:1], ROWS[:2], ROWS[:3]]:
            self.assertIs(type(raised(Lines(SEQ, HELD, rows).way)), InvalidOperation)

    def test_ways_beyond_the_bounds(self):
        # Each a has to become a pair of b ahead of the whole, and forty nodes have no room for that.
        book = Book.read("symbols a 0 b 0 f 2", "a => f(b, b)")
        one = term("f(a, " * 19 + "a" + ")" * 19)
        error = raised(shown(book, one, 0, ("res", ())).way)
        self.assertEqual((type(error), error.limit), (TooMany, 200))
        short = term("f(a, " * 9 + "a" + ")" * 9)
        self.assertEqual(len(walked_steps(book, short)), 10)

    def test_what_shrinks_comes_first(self):
        book = Book.read("symbols a 0 b 0 c 0 f 2 g 1", "a => f(f(b, b), f(b, b))", "g(_) => b")
        one = term("f(a, f(a, g(" + "f(b, " * 14 + "b" + ")" * 17)
        self.assertEqual(len(one), 34)
        self.assertEqual(len(walked_steps(book, one)), 3)

        # First two nodes more are needed here, and then there is much room.
        book = Book.read("symbols a 0 b 0 c 0 f 2 g 2 h 1", "a => h(b)", "c => h(h(b))", "g(h(h(_)), _) => b")
        one = term("f(a, g(c, " + "h(" * 33 + "b" + ")" * 35)
        self.assertEqual(len(one), 38)
        self.assertEqual([at for at, _, _ in walked_steps(book, one)], [3, 2, 1])

    def test_parts_that_nothing_asks_for_stay(self):
        book = Book.read("symbols a 0 b 0 f 2", "f(b, _) => b", "a => f(a, a)")
        self.assertEqual(shown(book, term("f(b, f(a, #))"), 0, ("res", (0,))).way(),
                         (term("f(b, f(a, #))"), ((0, 0, B),)))


def walked_steps(book, one):
    """The steps of a way to the result of a term."""
    fact = ("res", result_classes(book)[0])
    way = shown(book, one, 0, fact).way()
    assert is_end(book, walked(book, one, way), fact)
    return way[1]


class Judged(unittest.TestCase):
    def test_all_short_ways(self):
        for book, text in [(CHAIN, "f(g(a), #)"), (CHAIN, "f(_, b)"), (SEQ, "f(g, _)"), (SPECIAL[9], "f(f(a, #), b)")]:
            one = term(text)
            small = [("a",), ("b",), ("f", ("a",), ("b",))]
            for start in filled_trees(nested(one.nodes), small):
                self.compare(book, one, start, (), 2)

    def compare(self, book, one, tree, steps, left):
        start = term_of(tree) if not steps else self.start
        self.start = start
        way = (start, steps)
        for fact in facts_of(book):
            self.assertIs(is_way(book, one, fact, way), is_end(book, tree, fact))
        self.assertEqual(end_of(book, one, way), term_of(tree))
        if left == 0:
            return
        for at, rule, put in [(at, rule, put) for at in range(size_of(tree) + 1) for rule in range(len(book))
                              for put in (A, B, term("f(b, a)"), term("_"))]:
            pattern, sketch = rules_of(book)[rule]
            right = at < size_of(tree) and fits(parts_of(tree)[at], pattern) and fits(nested(put.nodes), sketch)
            further = (*steps, (at, rule, put))
            if right and put.is_ground:
                self.compare(book, one, with_tree(tree, at, nested(put.nodes)), further, left - 1)
            else:
                self.assertIs(type(raised(end_of, book, one, (start, further))), InvalidOperation)
                self.assertIs(is_way(book, one, facts_of(book)[0], (start, further)), False)

    def test_no_ways(self):
        one, fact, steps = HELD, ("res", (0,)), ((1, 2, A), (0, 0, A))
        self.assertIs(is_way(SEQ, one, fact, (one, steps)), True)
        for value in [*all_kinds(), (one,), (one, steps, ()), [one, steps], (one, list(steps)), (one.nodes, steps),
                      ("f(g, #)", steps),
                      (one, ((1, 2, A), [0, 0, A])), (one, ((1, 2, A), (0, 0))), (one, ((1, 2, A), (0, 0, A, A))),
                      (one, ((True, 2, A), (0, 0, A))), (one, ((1, 2, A), (False, 0, A))),
                      (one, ((1, 2, A), (0, False, A))),
                      (one, ((1, 2, A), (0, 0, "a"))), (one, ((1, 2, A), (0, 0, term("_")))), (one, steps[1:]),
                      (one, ((1, 2, term("#")), (0, 0, A))), (one, ((1, 2, A), (0, 0, term("c")))), (one, steps[::-1]),
                      (one, ((1, 2, A), (0, 1, A))), (one, ((3, 2, A),)), (one, ((-2, 2, A),)), (one, ((1, 3, A),)),
                      (one, ((1, -1, A),)), (term("f(g, b)"), steps), (term("f(g, _)"), steps),
                      (term("f(a, #)"), steps),
                      (one, ((1, 2, A), (0, 0, term("g"))))]:
            self.assertIs(is_way(SEQ, one, fact, value), False, value)
        for value in [*all_kinds(), (one, list(steps)), (one, ((1, 2, A), (0, 0, "a"))), (one, steps[1:])]:
            self.assertIs(type(raised(end_of, SEQ, one, value)), InvalidOperation)

    def test_starts(self):
        one = term("f(_, f(_, #))")
        for text, told in [("f(a, f(b, #))", True), ("f(g, f(f(a, a), #))", True), ("f(_, f(b, #))", False),
                           ("f(a, f(#, #))", False),
                           ("f(a, f(b, a))", False), ("f(f(a, #), f(b, #))", False), ("f(a, b)", False), ("a", False)]:
            found = raised(end_of, SEQ, one, (term(text), ())) if not told else end_of(SEQ, one, (term(text), ()))
            self.assertEqual(found == term(text), told, text)

    def test_starts_of_other_symbols(self):
        one = term("f(_, #)")
        for text in ["f(c, #)", "f(h(a), #)", "f(g(a), #)"]:
            self.assertIs(type(raised(end_of, SEQ, one, (term(text), ()))), InvalidOperation)

    def test_forty_nodes_and_two_hundred_steps(self):
        book = Book.read("symbols a 0 f 1 g 1", "a => f(_)", "f(_) => _")
        loop = tuple((0, 1, A) if at % 2 else (0, 0, term("f(a)")) for at in range(200))
        self.assertEqual(end_of(book, A, (A, loop)), A)
        self.assertIs(type(raised(end_of, book, A, (A, (*loop, (0, 0, term("f(a)")))))), InvalidOperation)
        tall = Book.read("symbols a 0 g 1", "a => g(_)")
        one = term(chain(39))
        self.assertEqual(len(end_of(tall, one, (one, ((38, 0, term("g(a)")),)))), 40)
        self.assertIs(type(raised(end_of, tall, one, (one, ((38, 0, term("g(g(a))")),)))), InvalidOperation)
        back = Book.read("symbols a 0 g 1", "a => g(_)", "g(_) => a")
        steps = ((38, 0, term("g(g(a))")), (0, 1, A))
        self.assertIs(type(raised(end_of, back, one, (one, steps))), InvalidOperation)

    def test_errors_in_their_order(self):
        for value in no_books():
            self.assertIs(type(raised(is_way, value, 5, 5, 5)), InvalidBook)
            self.assertIs(type(raised(end_of, value, 5, 5)), InvalidBook)
        for value in all_kinds() + [term("h"), term("f(a)"), SEQ]:
            if value not in (term("a"), term("_")):
                self.assertIs(type(raised(is_way, SEQ, value, 5, 5)), InvalidTerm)
                self.assertIs(type(raised(end_of, SEQ, value, 5)), InvalidTerm)
        for wrong in no_facts():
            self.assertIs(type(raised(is_way, SEQ, HELD, wrong, 5)), InvalidOperation)

    def test_large_books(self):
        for fact in facts_of(LARGE):
            way = shown(LARGE, term("_"), 0, fact).way()
            self.assertTrue(is_end(LARGE, walked(LARGE, term("_"), way), fact))


if __name__ == "__main__":
    unittest.main()
