"""[0.16] to [0.23]: what holds over the whole program, and what does not."""

import random
import unittest

from firstneed.base.books import Book
from firstneed.need.classes import result_classes
from firstneed.need.lines import is_shown, is_way, shown
from firstneed.need.places import Need, around, is_needed, is_needed_paper
from firstneed.need.tables import Table, anything, is_below
from firstneed.use.looks import has_looks, looks_of
from firstneed.whole.alike import need_same, needs_over, parting_term
from firstneed.whole.known import books_between, given_up, tips
from firstneed.whole.led import Led, is_led_paper, led_paper
from tests.helper import term_of
from tests.samples import COND, GUS, LARGE, PLUS, SEQ, SPECIAL, chance_books, chance_term, gapped_book, term
from tests.slow import few_trees

HASH = term("#")
BOOKS = chance_books(181, 60) + [gapped_book(random.Random(seed)) for seed in range(30)]
EMPTY = [Book.read("symbols a 0", "a => a"), Book.read("symbols a 0 f 2", "a => _", "f(_, _) => a"),
         Book.read("symbols a 0 b 0 f 3 g 1", "a => b", "b => f(a, _, _)", "f(_, g(a), b) => _"),
         Book.read("symbols a 0 f 2 g 1", "a => _", "f(a, g(_)) => _", "f(_, a) => g(_)")]


class Statements(unittest.TestCase):
    def test_needed_places_by_states(self):
        # [0.16]
        chance = random.Random(182)
        for book in BOOKS:
            one = chance_term(chance, book.symbols, 8, leaves=chance.choice([(), ("_",)]))
            table = Table(book)
            for at in range(len(one)):
                self.assertIs(is_needed(book, one, at), table.state(one.with_part(at, HASH))[1] == ())

    def test_closed_tables_tell_at_least_all_ways(self):
        # [0.17]
        chance, some = random.Random(183), 0
        for book in BOOKS:
            least = Table(book)
            one = chance_term(chance, book.symbols, 7, leaves=("_",))
            for key in list(least.mapping)[:4]:
                table = least.assuming(*key, anything(book))
                self.assertTrue(is_below(least.state(one), table.state(one)))
                for at in range(len(one)):
                    if table.state(one.with_part(at, HASH))[1] == ():
                        self.assertIs(is_needed(book, one, at), True)
                        self.assertIs(is_needed_paper(book, one, at, table), True)
            can, res = least.state(one)
            for fact in [("can", part) for part in can[:2]] + [("res", row) for row in res[:2]]:
                lines = shown(book, one, 0, fact)
                self.assertIs(is_shown(book, one, 0, fact, lines.lines), True)
                self.assertIs(is_way(book, one, fact, lines.way()), True)
                some += 1
        self.assertTrue(some > 100)

    def test_ways_around(self):
        chance, some = random.Random(184), 0
        for book in BOOKS:
            one = chance_term(chance, book.symbols, 7, leaves=())
            for at in range(len(one)):
                if not is_needed(book, one, at):
                    way = around(book, one, at)
                    results = [("res", row) for row in result_classes(book)]
                    self.assertTrue(any(is_way(book, one.with_part(at, HASH), fact, way) for fact in results))
                    some += 1
        self.assertTrue(some > 20, some)

    def test_led_books_and_bad_terms(self):
        # [0.18]
        seen = {True: 0, False: 0}
        for book in BOOKS:
            for is_open in (False, True):
                led = Led(book, is_open=is_open)
                self.assertIs(is_led_paper(book, led_paper(book, is_open=is_open), is_open=is_open), True)
                seen[led.is_led] += 1
                if not led.is_led:
                    need = Need(book, led.bad_term())
                    self.assertEqual([need.is_done, need.both], [False, ()])
                for tree in few_trees(book.symbols, 25, ("_",) if is_open else ()):
                    need = Need(book, term_of(tree))
                    if led.is_led and not need.is_done:
                        self.assertNotEqual(need.both, ())
        self.assertTrue(min(seen.values()) > 30, seen)

    def test_knowing_more(self):
        # [0.20]
        some = 0
        for book in [PLUS.full(), COND, *BOOKS]:
            if book == SPECIAL[-1]:
                # There are more than four thousand pairs.
                continue
            weaker = [book.strong(), *[given_up(book, *tip) for tip in tips(book)[:3]]]
            for less in weaker:
                self.assertIs(needs_over(book, less), True)
                for is_open in (False, True):
                    if Led(less, is_open=is_open).is_led:
                        self.assertIs(Led(book, is_open=is_open).is_led, True)
                        some += 1
        self.assertTrue(some > 50)
        for book in books_between(PLUS.strong(), PLUS.full()):
            self.assertTrue(needs_over(book, PLUS.strong()) and needs_over(PLUS.full(), book))

    def test_parting_terms(self):
        # [0.19]
        some = 0
        for book in BOOKS:
            found = parting_term(book, book.strong())
            self.assertIs(found is None, need_same(book, book.strong()))
            if found is not None:
                whole = found.with_part(found.lost[0], term(book.constants[0]))
                self.assertNotEqual(is_needed(book, whole, found.lost[0]),
                                    is_needed(book.strong(), whole, found.lost[0]))
                some += 1
        self.assertTrue(some > 10, some)

    def test_places_above_needed_ones(self):
        # [0.22], here and below.
        chance = random.Random(185)
        for book in BOOKS + [LARGE]:
            for size in (5, 12, 30):
                one = chance_term(chance, book.symbols, size, leaves=chance.choice([(), ("_",)]))
                need = Need(book, one)
                for at in need:
                    self.assertTrue(all(above in need for above in one.above(at)))

    def test_the_only_redex(self):
        some = 0
        for book in BOOKS + SPECIAL:
            for tree in few_trees(book.symbols, 40):
                one = term_of(tree)
                redexes = book.redexes(one)
                if len(redexes) == 1:
                    self.assertIs(is_needed(book, one, redexes[0]), True)
                    some += redexes[0] > 0
        self.assertTrue(some > 100)

    def test_a_redex_at_the_root(self):
        some = 0
        for book in BOOKS + SPECIAL:
            for tree in few_trees(book.symbols, 40):
                one = term_of(tree)
                redexes = book.redexes(one)
                if 0 in redexes:
                    self.assertNotEqual(Need(book, one).both, ())
                    some += len(redexes) > 1
        self.assertTrue(some > 100)

    def test_without_results(self):
        chance = random.Random(186)
        for book in EMPTY:
            self.assertEqual(result_classes(book), ())
            for size in (1, 4, 9, 25):
                one = chance_term(chance, book.symbols, size, leaves=("_",))
                self.assertEqual(Need(book, one).needed, tuple(range(len(one))))
            for is_open in (False, True):
                self.assertIs(Led(book, is_open=is_open).is_led, True)
            self.assertIs(need_same(book, book.strong()), True)

    def test_looks_of_books_without_results(self):
        # All is needed, so that each place that some pattern asks of is a look, and no term is stuck.
        for book in EMPTY:
            for word in book.symbols:
                self.assertIs(has_looks(book, word), True)
        self.assertEqual(looks_of(EMPTY[2], term("f(_, _, _)")), (2, 3))


class NotTrue(unittest.TestCase):
    """[0.23]: an example against each sentence."""

    def test_a_symbol_more(self):
        book = Book.read("symbols a 0 f 2", "a => _", "f(_, a) => _", "f(a, _) => _")
        self.assertEqual([Led(book).is_led, Led(book.with_symbol("h", 0)).is_led], [True, False])

    def test_a_rule_less(self):
        book = Book.read("symbols a 0 b 0 f 3 g 0", "f(_, _, _) => a", "f(a, b, _) => _", "f(_, a, b) => _",
                         "f(b, _, a) => _",
                         "g => _")
        self.assertEqual([book.without(0), Led(book).is_led, Led(book.without(0)).is_led],
                         [Book(GUS.symbols, GUS.rules), True, False])

    def test_the_least_redex(self):
        book = Book.read("symbols a 0 b 0 f 2 g 0", "f(_, a) => _", "f(a, b) => _", "g => _")
        need = Need(book, term("f(g, g)"))
        self.assertEqual([need.asks, need.both, Led(book).is_led], [(1, 2), (2,), True])

    def test_a_needed_place_of_a_part(self):
        whole = term("f(a, g)")
        self.assertEqual([is_needed(SEQ, whole.part(2), 0), is_needed(SEQ, whole, 2)], [True, False])

    def test_overlapping_patterns(self):
        for book in [Book.read("symbols a 0 b 0 f 2 g 0", "f(_, _) => b", "f(a, _) => b", "g => _"),
                     Book.read("symbols a 0 f 1", "f(f(_)) => _", "a => _")]:
            self.assertEqual([Led(book).is_led, Led(book, is_open=True).is_led], [True, True])


if __name__ == "__main__":
    unittest.main()
