"""[0.20], [11.1] to [11.3]: how much of the right sides has to be known."""

import inspect
import random
import unittest
from itertools import product

from firstneed.base.books import Book
from firstneed.base.programs import Program
from firstneed.base.terms import Term
from firstneed.errors import InvalidBook, InvalidOperation, InvalidProgram, InvalidTerm, TooMany
from firstneed.need.places import is_needed
from firstneed.whole.known import (books_between, given_up, is_between, is_least_known, joined, least_known, meet,
                                   spared, tips)
from firstneed.whole.led import Led, is_led_paper
from tests.helper import all_kinds, fits, nodes_of, raised, text_of
from tests.samples import (COND, GUS, LARGE, PLUS, SEQ, SPECIAL, chance_books, chance_nodes, chance_term, no_books,
                           term,
                           terms)
from tests.slow import nested

SHUT = Program.from_lines({"a": 0, "b": 0, "c": 0, "f": 3, "k": 1}, "f(a, b, X) => c", "f(X, a, b) => c",
                          "f(b, X, a) => c", "k(X) => c")
# The right side of the last rule is known down to a leaf, of which just a part is asked for.
DEEP = Program.from_lines({"a": 0, "b": 0, "f": 3, "h": 2, "k": 1}, "f(a, b, X) => a", "f(X, a, b) => a",
                          "f(b, X, a) => a", "k(X) => h(a, f(a, X, b))")
# Its full book is not led.
OPEN = Program.from_lines({"a": 0, "b": 0, "f": 3, "k": 1}, "f(a, b, X) => X", "f(X, a, b) => X", "f(b, X, a) => X",
                          "k(X) => X")
PROGRAMS = [SHUT, DEEP, PLUS]
NO_FLAGS = [None, 0, 1, -1, "", "True", (), (True,), [], {}, 10 ** 60, term("a")]
FULL = DEEP.full()


def no_programs():
    return [*all_kinds(), SEQ, SHUT.full(), SHUT.rules, SHUT.lines, (SHUT,)]


def chance_programs(seed, many):
    """Programs by chance whose patterns overlap, so that much hangs on what is known."""
    chance, found = random.Random(seed), []
    while len(found) < many:
        symbols = {"a": 0, "b": 0, "f": 3, "k": 1, "h": chance.choice([1, 2])}
        rules = {}
        for _ in range(chance.randint(2, 4)):
            inner = [chance.choice(["X", "a", "b"]) for _ in range(3)]
            inner = [one if one != "X" else "XYZ"[at] for at, one in enumerate(inner)]
            names = [one for one in inner if one in "XYZ"]
            left = "f(" + ", ".join(inner) + ")"
            rules[left.replace("X", "_").replace("Y", "_").replace("Z", "_")] = (left, names)
        rules["k(_)"] = ("k(X)", ["X"])
        lines = []
        for left, names in rules.values():
            nodes = chance_nodes(chance, symbols, chance.randint(1, 5), 0.3)
            right = "".join([chance.choice(names or ["a"]) if letter == "_" else letter for letter in
                             Term(nodes).text])
            lines.append(f"{left} => {right}")
        program = Program.from_lines(symbols, *lines)
        # Those of which the strong book is led leave little to be found.
        if len(found) % 4 == 0 or not Led(program.strong()).is_led:
            found.append(program)
    return found


CHANCE = chance_programs(121, 40)


def opened(tree):
    """All nested trees of which this one is an instance."""
    if tree == ("_",):
        return [tree]
    return [("_",)] + [(tree[0], *inner) for inner in product(*[opened(one) for one in tree[1:]])]


def book_of(book, trees):
    """The book with these nested trees as sketches."""
    return Book(book.symbols, tuple(zip(book.patterns, [Term(nodes_of(tree)) for tree in trees])))


def slow_between(low, high):
    """[11.2]: the texts of the sketches of all books between both, by trying."""
    options = [[tree for tree in opened(nested(one.nodes)) if fits(tree, nested(other.nodes))]
               for one, other in zip(high.sketches, low.sketches)]
    return sorted({tuple(text_of(tree) for tree in row) for row in product(*options)})


class Between(unittest.TestCase):
    def test_books_below_between_and_above(self):
        low, high = SHUT.strong(), SHUT.full()
        half = given_up(high, 0, 0)
        self.assertEqual([is_between(book, low, high) for book in (low, half, high)], [True] * 3)
        self.assertEqual([is_between(low, half, high), is_between(high, low, half), is_between(half, half, half),
                          is_between(half, high, low), is_between(low, high, high)],
                         [False, False, True, False, False])
        self.assertIs(is_between(given_up(high, 1, 0), half, high), False)
        self.assertIs(is_between(high.with_sketch(0, term("a")), low, high), False)

    def test_other_patterns_and_symbols(self):
        low, high = SHUT.strong(), SHUT.full()
        others = [SEQ, low.without(0), low.with_symbol("h", 0), Book(low.symbols, low.rules[::-1]),
                  low.with_rule(term("c"), term("_"))]
        for other in others:
            self.assertEqual([is_between(other, low, high), is_between(low, other, high), is_between(low, low, other)],
                             [False] * 3)

    def test_errors(self):
        for value in no_books():
            for given in [(value, 5, 5), (SEQ, value, 5), (SEQ, SEQ, value), (value, SEQ, SEQ), (SEQ, value, SEQ)]:
                self.assertIs(type(raised(is_between, *given)), InvalidBook)


class Tips(unittest.TestCase):
    def test_no_tip_one_and_several(self):
        self.assertEqual([tips(GUS), tips(Book({"a": 0}))], [(), ()])
        self.assertEqual(tips(COND), ((2, 0),))
        book = Book.read("symbols a 0 f 2 g 1", "a => f(_, _)", "g(a) => f(g(_), f(a, _))", "g(_) => g(g(g(a)))")
        self.assertEqual(tips(book), ((0, 0), (1, 1), (1, 4), (2, 3)))
        for book in chance_books(122, 60):
            found = [(rule, at) for rule, sketch in enumerate(book.sketches) for at in range(len(sketch))
                     if sketch[at][0] != "_" and all(sketch[inner][0] == "_" for inner in sketch.children(at))]
            self.assertEqual(tips(book), tuple(found))

    def test_given_up(self):
        book = Book.read("symbols a 0 f 2 g 1", "a => f(_, _)", "g(a) => f(g(_), f(a, _))")
        self.assertEqual(given_up(book, 0, 0).sketches, terms("_", "f(g(_), f(a, _))"))
        self.assertEqual(given_up(book, 1, 1).sketches, terms("f(_, _)", "f(_, f(a, _))"))
        self.assertEqual(given_up(book, 1, 4).sketches, terms("f(_, _)", "f(g(_), f(_, _))"))
        for book in chance_books(123, 40):
            for rule, node in tips(book):
                less = given_up(book, rule, node)
                self.assertEqual(less, book.with_sketch(rule, book.sketches[rule].with_part(node, term("_"))))
                self.assertEqual([book.knows_more(less), less.knows_more(book)], [True, False])

    def test_no_tips(self):
        book = Book.read("symbols a 0 f 2 g 1", "a => f(_, _)", "g(a) => f(g(_), f(a, _))", "g(_) => g(g(g(a)))")
        for pair in [(True, 1), (1, True), (False, 0), (0, False), (-1, 0), (0, -1), (3, 0), (0, 3), (0, 1), (1, 2),
                     (1, 0), (1, 3), (1, 5), (2, 0), (2, 2), (2, 4), (None, 0), (0, None), ("0", 0), (0, (0,)),
                     ([], 0), (0, {}), (10 ** 60, 0), (0, 10 ** 60), (0, term("a"))]:
            self.assertIs(type(raised(given_up, book, *pair)), InvalidOperation)
        for value in no_books():
            self.assertIs(type(raised(tips, value)), InvalidBook)
            self.assertIs(type(raised(given_up, value, 5, 5)), InvalidBook)


class Lattice(unittest.TestCase):
    def sketched(self, *texts):
        rules = [term("a"), term("b"), term("f(a, b)")][:len(texts)]
        return Book({"a": 0, "b": 0, "f": 2, "g": 1}, tuple(zip(rules, terms(*texts))))

    def test_more_and_less(self):
        for one, other in [(SHUT.full(), SHUT.strong()), (FULL, DEEP.known(1)), (FULL, FULL), (GUS, GUS)]:
            self.assertEqual([meet(one, other), meet(other, one), joined(one, other), joined(other, one)],
                             [other, other, one, one])

    def test_of_two_that_know_different_things(self):
        one, other = self.sketched("f(a, _)", "_", "g(g(_))"), self.sketched("f(_, g(b))", "a", "g(g(a))")
        self.assertEqual(meet(one, other), self.sketched("f(_, _)", "_", "g(g(_))"))
        self.assertEqual(joined(one, other), self.sketched("f(a, g(b))", "a", "g(g(a))"))
        self.assertEqual([joined(other, one), meet(other, one)], [joined(one, other), meet(one, other)])
        unlike = self.sketched("f(a, _)", "b", "g(f(_, _))")
        self.assertEqual(meet(other, unlike), self.sketched("f(_, _)", "_", "g(_)"))

    def test_by_all_books_between(self):
        chance = random.Random(124)
        seen = {True: 0, False: 0}
        for _ in range(40):
            texts = ["f(a, g(b))", "f(g(_), f(_, _))", "g(g(f(a, _)))", "f(f(a, b), _)"]
            full = self.sketched(chance.choice(texts), chance.choice(texts))
            every = list(books_between(full.strong(), full))
            one, other = chance.choice(every), chance.choice(every)
            below = [book for book in every if one.knows_more(book) and other.knows_more(book)]
            self.assertEqual([book for book in below if all(book.knows_more(less) for less in below)],
                             [meet(one, other)])
            above = [book for book in every if book.knows_more(one) and book.knows_more(other)]
            self.assertEqual([book for book in above if all(more.knows_more(book) for more in above)],
                             [joined(one, other)])
            seen[one.knows_more(other) or other.knows_more(one)] += 1
        self.assertTrue(min(seen.values()) > 3, seen)

    def test_no_common_instance(self):
        one = self.sketched("f(a, _)", "_")
        for other in [self.sketched("f(b, _)", "a"), self.sketched("g(_)", "_"), self.sketched("a", "_")]:
            for given in [(one, other), (other, one)]:
                self.assertIs(type(raised(joined, *given)), InvalidOperation)
                self.assertIs(type(meet(*given)), Book)

    def test_more_than_seven_nodes(self):
        one, other = self.sketched("f(f(a, f(a, b)), _)", "_"), self.sketched("f(_, g(b))", "_")
        self.assertEqual(len(one.sketches[0] & other.sketches[0]), 8)
        self.assertIs(type(raised(joined, one, other)), InvalidBook)
        self.assertEqual(joined(one, self.sketched("f(_, b)", "_")).sketches[0], term("f(f(a, f(a, b)), b)"))
        # Unlike sketches are told ahead of large ones, wherever they stand.
        self.assertIs(type(raised(joined, one.with_sketch(1, term("a")), other.with_sketch(1, term("b")))),
                      InvalidOperation)

    def test_errors(self):
        for value in no_books():
            for call in (meet, joined):
                for given in [(value, 5), (value, SEQ), (SEQ, value)]:
                    self.assertIs(type(raised(call, *given)), InvalidBook)
        for other in [GUS, SEQ.without(0), SEQ.with_symbol("h", 0), Book(SEQ.symbols, SEQ.rules[::-1]),
                      SEQ.renamed({"a": "b", "b": "a", "f": "f", "g": "g"})]:
            for call in (meet, joined):
                self.assertIs(type(raised(call, SEQ, other)), InvalidOperation)


class Books(unittest.TestCase):
    def test_each_once_and_in_order(self):
        some = 0
        for program in PROGRAMS + CHANCE:
            for low, high in [(program.strong(), program.full()), (program.known(1), program.full()),
                              (program.strong(), program.known(1))]:
                expected = slow_between(low, high)
                if len(expected) > 300:
                    continue
                found = list(books_between(low, high))
                self.assertEqual([tuple(sketch.text for sketch in book.sketches) for book in found], expected)
                self.assertTrue(all(is_between(book, low, high) for book in found))
                some += len(found) > 10
        self.assertTrue(some > 10, some)

    def test_one_book(self):
        for book in [*SPECIAL, LARGE]:
            self.assertEqual(list(books_between(book, book)), [book])
        self.assertEqual(len(list(books_between(SHUT.strong(), SHUT.full()))), 16)

    def test_a_thousand_and_more(self):
        patterns = ["a", "b", "g(a)", "g(b)", "f(a, a)", "f(a, b)"]
        chain = "g(g(g(g(_))))"
        for sketches, many in [([chain, chain, chain, "a", "b", "a"], 1000),
                               (["g(g(g(g(g(g(_))))))", "f(a, g(g(g(g(_)))))", "f(g(a), g(g(a)))"], 1001),
                               (["f(f(a, b), f(a, b))"] * 6, 26 ** 6)]:
            rules = tuple(terms(*rule) for rule in zip(patterns, sketches))
            book = Book({"a": 0, "b": 0, "f": 2, "g": 1}, rules)
            total = 1
            for sketch in book.sketches:
                total *= len(opened(nested(sketch.nodes)))
            self.assertEqual(total, many)
            if many > 1000:
                error = raised(next, books_between(book.strong(), book))
                self.assertEqual((type(error), error.limit), (TooMany, 1000))
                continue
            texts = [tuple(sketch.text for sketch in one.sketches) for one in books_between(book.strong(), book)]
            self.assertEqual([len(set(texts)), texts], [many, sorted(texts)])

    def test_a_generator(self):
        self.assertTrue(inspect.isgeneratorfunction(books_between))
        for value in no_books():
            for given in [(value, 5), (value, SEQ), (SEQ, value)]:
                self.assertIs(type(raised(next, books_between(*given))), InvalidBook)
        for low, high in [(SHUT.full(), SHUT.strong()), (SEQ, GUS), (SEQ, SEQ.without(0)),
                          (SEQ, SEQ.with_symbol("h", 0))]:
            self.assertIs(type(raised(next, books_between(low, high))), InvalidOperation)
        first = next(books_between(SHUT.strong(), SHUT.full()))
        self.assertEqual(first, SHUT.strong())


class Least(unittest.TestCase):
    def check_least(self, program, is_open):
        book, rows = least_known(program, is_open=is_open)
        self.assertIs(is_between(book, program.strong(), program.full()), True)
        self.assertIs(Led(book, is_open=is_open).is_led, True)
        self.assertEqual(tuple(rows), tips(book))
        for rule, node in tips(book):
            less = given_up(book, rule, node)
            self.assertIs(Led(less, is_open=is_open).is_led, False)
            self.assertIs(is_led_paper(less, ("bad", rows[(rule, node)]), is_open=is_open), True)
        self.assertIs(is_least_known(program, (book, rows), is_open=is_open), True)
        return book, rows

    def test_the_example(self):
        book, rows = self.check_least(SHUT, False)
        self.assertEqual([book, tips(book)], [SHUT.full(), ((0, 0), (1, 0), (2, 0), (3, 0))])

    def test_a_part_only(self):
        book, _ = self.check_least(DEEP, False)
        self.assertNotIn(book, (DEEP.strong(), DEEP.full()))
        self.assertEqual(self.check_least(PLUS, False)[0], PLUS.strong())
        self.assertEqual(least_known(PLUS), (PLUS.strong(), {}))

    def test_programs_by_chance(self):
        seen = {"strong": 0, "full": 0, "between": 0, "none": 0}
        for program in [SHUT, DEEP, *CHANCE]:
            for is_open in (False, True):
                if not Led(program.full(), is_open=is_open).is_led:
                    seen["none"] += 1
                    self.assertIs(type(raised(lambda: least_known(program, is_open=is_open))), InvalidOperation)
                    self.assertIs(type(raised(lambda: is_least_known(program, 5, is_open=is_open))), InvalidOperation)
                    continue
                book, _ = self.check_least(program, is_open)
                kind = {program.strong().lines: "strong", program.full().lines: "full"}.get(book.lines, "between")
                seen[kind] += 1
        self.assertTrue(min(seen["strong"], seen["between"], seen["none"]) > 5 and seen["full"] > 0, seen)

    def test_by_all_books_between(self):
        some = 0
        for program in PROGRAMS + CHANCE[:15]:
            if len(slow_between(program.strong(), program.full())) > 60 or not Led(program.full()).is_led:
                continue
            led = [book for book in books_between(program.strong(), program.full()) if Led(book).is_led]
            least = [book for book in led if not any(book != other and book.knows_more(other) for other in led)]
            self.assertIn(least_known(program)[0], least)
            for book in least:
                rows = {(rule, node): Led(given_up(book, rule, node)).bad_rows() for rule, node in tips(book)}
                self.assertIs(is_least_known(program, (book, rows)), True)
                some += 1
            for book in led:
                if book not in least:
                    rows = {tip: (("a", ()),) for tip in tips(book)}
                    self.assertIs(is_least_known(program, (book, rows)), False)
        self.assertTrue(some > 5, some)

    def test_with_is_open(self):
        # With unknown parts let more has to be known than without.
        for program in CHANCE:
            if Led(program.full(), is_open=True).is_led:
                open_led = least_known(program, is_open=True)
                led = least_known(program)
                if open_led[0] != led[0]:
                    self.assertIs(is_least_known(program, led, is_open=True), False)
        bad = (("_", ()), ("f", (0, 0, 0)))
        book, rows = least_known(SHUT)
        others = {tip: bad for tip in rows}
        self.assertEqual([is_least_known(SHUT, (book, others)), Led(SHUT.full(), is_open=True).is_led],
                         [False, False])

    def test_other_rows(self):
        book, rows = least_known(SHUT)
        longer = {tip: (("a", ()), *[(word, tuple(use + 1 for use in uses)) for word, uses in row])
                  for tip, row in rows.items()}
        other = {tip: (*row, ("k", (len(row) - 1,)), ("f", (len(row) - 1,) * 3)) for tip, row in rows.items()}
        backwards = {tip: rows[tip] for tip in list(rows)[::-1]}
        for value in (longer, backwards):
            self.assertIs(is_least_known(SHUT, (book, value)), True)
        judged = [is_led_paper(given_up(book, *tip), ("bad", row)) for tip, row in other.items()]
        self.assertIs(is_least_known(SHUT, (book, other)), all(judged))

    def test_values_that_are_none(self):
        book, rows = least_known(SHUT)
        first = (0, 0)
        less = given_up(book, 3, 0)
        bad = Led(less).bad_rows()
        wrong = [*all_kinds(), [book, rows], (book,), (book, rows, ()), (rows, book), (book, None), (book, ()),
                 (None, rows), (book.lines, rows), (SHUT, rows), (less, rows), (less, {tip: bad for tip in tips(less)}),
                 (SHUT.strong(), {}), (book, {}), (book, {tip: rows[tip] for tip in list(rows)[1:]}),
                 (book, {**{tip: rows[tip] for tip in list(rows)[1:]}, (3, 1): bad}),
                 (book, {**{tip: rows[tip] for tip in list(rows)[1:]}, (0,): bad}), (book, {**rows, (4, 0): bad}),
                 (book, {**rows, (0, 1): bad}), (book, {**rows, 0: bad}),
                 (book, tuple(rows.items())), (book, list(rows.items())), (SEQ, rows), (SEQ, {}),
                 (book.with_symbol("h", 0), rows), (Book(book.symbols, book.rules[::-1]), rows)]
        wrong += [(book, {**rows, first: row}) for row in [
            (), None, rows[first][:-1], list(rows[first]), (*rows[first], ("a", ())), (*rows[first], ("h", ())),
            (("a", ()), ("f", (0, 0, 0))), ("bad", rows[first]), rows[(1, 0)], (("_", ()),), term("a")]]
        wrong += [(book, {(bool(rule) if (rule, node) == (1, 0) else rule, node): row
                          for (rule, node), row in rows.items()})]
        wrong += [(book, {(rule, bool(node)): row for (rule, node), row in rows.items()})]
        for value in wrong:
            self.assertIs(is_least_known(SHUT, value), False, value)
        # A program of which the strong book is led: no tips, no rows.
        self.assertIs(is_least_known(PLUS, (PLUS.strong(), {})), True)
        for value in [(PLUS.full(), {tip: rows[first] for tip in tips(PLUS.full())}), (PLUS.strong(), ()),
                      (PLUS.strong(), {(0, 0): rows[first]})]:
            self.assertIs(is_least_known(PLUS, value), False)

    def test_errors(self):
        for value in no_programs():
            self.assertIs(type(raised(lambda: least_known(value, is_open=5))), InvalidProgram)
            self.assertIs(type(raised(lambda: is_least_known(value, 5, is_open=5))), InvalidProgram)
        for flag in NO_FLAGS:
            for program in (SHUT, OPEN):
                self.assertIs(type(raised(lambda: least_known(program, is_open=flag))), InvalidOperation)
                self.assertIs(type(raised(lambda: is_least_known(program, 5, is_open=flag))), InvalidOperation)
        self.assertIs(Led(OPEN.full()).is_led, False)
        self.assertIs(type(raised(least_known, OPEN)), InvalidOperation)
        self.assertIs(type(raised(is_least_known, OPEN, (OPEN.full(), {}))), InvalidOperation)

    def test_what_is_handed_out_can_be_changed(self):
        book, rows = least_known(SHUT)
        kept = dict(rows)
        self.assertIs(is_least_known(SHUT, (book, rows)), True)
        self.assertEqual([rows, list(rows)], [kept, list(kept)])
        rows.clear()
        self.assertEqual(least_known(SHUT), (book, kept))


class Spared(unittest.TestCase):
    def test_each_word(self):
        self.assertEqual(spared(SHUT, SHUT.ground("f(k(a), k(a), k(a))")), {1: "known", 3: "known", 5: "known"})
        self.assertEqual(spared(PLUS, PLUS.ground("add(s(o), dup(o))")), {0: "always", 3: "open"})
        self.assertEqual(spared(OPEN, OPEN.ground("f(k(a), k(a), k(a))")), {1: "open", 3: "open", 5: "open"})
        self.assertEqual([spared(PLUS, PLUS.ground(text)) for text in ("o", "s(s(o))")], [{}, {}])

    def test_by_the_needed_places(self):
        chance, seen = random.Random(125), {}
        for program in PROGRAMS + CHANCE:
            for _ in range(6):
                one = chance_term(chance, program.symbols, 12, leaves=())
                found = spared(program, one)
                places = sorted({place for place, _ in program.redexes(one)})
                self.assertEqual(list(found), places)
                for at in places:
                    strong, full = (is_needed(book, one, at) for book in (program.strong(), program.full()))
                    self.assertEqual(found[at], "always" if strong else "known" if full else "open")
                    self.assertTrue(full or not strong)
                    seen[found[at]] = seen.get(found[at], 0) + 1
        self.assertTrue(min(seen.values()) > 3 and len(seen) == 3, seen)

    def test_errors(self):
        for value in no_programs():
            self.assertIs(type(raised(spared, value, 5)), InvalidProgram)
        for value in [one for one in all_kinds() if one != term("a")] + [
                term("h"), term("f(a)"), term("f(a, a, _)"), term("f(a, #, a)"), SHUT, SHUT.full()]:
            self.assertIs(type(raised(spared, SHUT, value)), InvalidTerm)


if __name__ == "__main__":
    unittest.main()
