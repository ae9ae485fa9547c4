"""[0.19], [0.20], [10.1] to [10.3]: books that need the same, and what shows whether they do."""

import random
import unittest

from firstneed.base.books import Book
from firstneed.base.terms import Term
from firstneed.errors import InvalidBook, InvalidOperation, TooMany
from firstneed.need.classes import result_classes
from firstneed.need.places import Need
from firstneed.need.tables import Table, anything
from firstneed.whole import alike as module
from firstneed.whole.alike import (alike_paper, is_alike_paper, marked_pairs, need_same, needs_over, parting_rows,
                                   parting_term, plain_pairs)
from tests.helper import all_kinds, chain, raised, term_of as term_of_tree
from tests.samples import COND, GUS, LARGE, PLUS, SEQ, SPECIAL, chance_books, chance_nodes, no_books, term
from tests.slow import States, few_trees, nested, product, told

HOLE = ((), ())
MORE = GUS.with_sketch(3, term("a"))
WIDE = Book.read("symbols a 0 b 0 c 3 d 0 f 3 g 0 h 1 k 1", "h(f(a, _, _)) => b", "h(f(_, a, _)) => a",
                 "h(f(_, _, a)) => d", "k(f(b, _, _)) => a", "k(f(_, b, _)) => a", "f(_, b, d) => b")
# More than four thousand plain pairs stand between WIDE and this one.
BESIDE = WIDE.with_sketch(0, term("a")).with_sketch(1, term("b"))
CALLS = (need_same, plain_pairs, marked_pairs, parting_rows, parting_term, alike_paper, needs_over)


def beside(chance, book):
    """A book with the same symbols that differs in something, or in nothing."""
    if not book.rules:
        return book
    way, rule = chance.randrange(6), chance.randrange(len(book))
    if way == 0:
        return book.strong()
    if way == 1:
        return book.without(rule)
    if way == 2:
        return Book(book.symbols, book.rules[::-1])
    if way == 3:
        return book
    for _ in range(20):
        sketch = Term(chance_nodes(chance, book.symbols, 4, 0.5))
        if way == 5 or sketch.is_instance(book.sketches[rule]):
            return book.with_sketch(rule, sketch)
    return book.with_sketch(rule, term(book.constants[0]))


def twos(seed, many):
    """Pairs of books with equal symbols."""
    chance = random.Random(seed)
    found = [(GUS, MORE), (MORE, GUS), (GUS, GUS), (Book({"a": 0, "f": 2}), Book({"a": 0, "f": 2}))]
    for book in chance_books(seed, many):
        found.append((book, beside(chance, book)))
    return found


PAIRS = twos(111, 100)


class Slow:
    """[10.2]: all pairs of two books, by rounds and a second reading."""

    def __init__(self, one, other):
        self.books = (one, other)
        self.sides = [States(book, result_classes(book)).close() for book in self.books]

    def made(self, word, entries):
        """What a symbol makes of entries (marks, state, state), of which one at most has a mark."""
        pair = []
        for side, slow in enumerate(self.sides):
            states = [(set(entry[1 + side][0]), set(entry[1 + side][1])) for entry in entries]
            pair.append(told(slow.made(word, states)))
        return (sum(entry[0] for entry in entries), *pair)

    def made_of_all(self, entries):
        """All that symbols make of entries, with one mark at most."""
        return {self.made(word, row) for word, arity in self.books[0].symbols.items()
                for row in product(sorted(entries), repeat=arity) if sum(entry[0] for entry in row) <= 1}

    def all_entries(self, limit=12):
        """All entries, or None if there are more than the limit."""
        found = {(1, HOLE, HOLE)}
        while True:
            made = self.made_of_all(found)
            if made <= found:
                return found
            found |= made
            if len(found) > limit:
                return None

    def paper_of(self, entries):
        """The paper of these entries."""
        return ("same", *[tuple(sorted(entry[1:] for entry in entries if entry[0] == marks)) for marks in (0, 1)])


def parts(entry):
    return (entry[1][1] == ()) != (entry[2][1] == ())


class Pairs(unittest.TestCase):
    def test_by_all_rounds(self):
        some, seen = 0, {True: 0, False: 0}
        for one, other in PAIRS + twos(112, 30):
            slow = Slow(one, other)
            entries = slow.all_entries()
            if entries is None:
                continue
            some += 1
            _, plain, marked = slow.paper_of(entries)
            self.assertEqual([plain_pairs(one, other), marked_pairs(one, other)], [plain, marked])
            same = not any(entry[0] and parts(entry) for entry in entries)
            self.assertIs(need_same(one, other), same)
            seen[same] += 1
        self.assertTrue(some > 60 and min(seen.values()) > 10, (some, seen))

    def test_by_the_states_of_small_terms(self):
        for one, other in PAIRS:
            sides = [Table(one), Table(other)]
            plain, marked = plain_pairs(one, other), marked_pairs(one, other)
            for pairs in (plain, marked):
                self.assertEqual(list(pairs), sorted(set(pairs)))
            for tree in few_trees(one.symbols, 60, ("#",)):
                found = term_of_tree(tree)
                pair = tuple(side.state(found) for side in sides)
                if len(found.lost) <= 1:
                    self.assertIn(pair, marked if found.lost else plain)
            self.assertIn((HOLE, HOLE), marked)

    def test_closed_under_what_symbols_make(self):
        chance = random.Random(113)
        for one, other in PAIRS:
            slow = Slow(one, other)
            plain, marked = plain_pairs(one, other), marked_pairs(one, other)
            for word, arity in one.symbols.items():
                for hole in [None, *range(arity)]:
                    row = [(1, *chance.choice(marked)) if at == hole else (0, *chance.choice(plain))
                           for at in range(arity)]
                    made = slow.made(word, row)
                    self.assertIn(made[1:], marked if made[0] else plain)

    def test_a_book_with_few_pairs(self):
        self.assertEqual(plain_pairs(Book({"a": 0}), Book({"a": 0})), ((((), ((),)), ((), ((),))),))
        self.assertEqual(marked_pairs(Book({"a": 0}), Book({"a": 0})), ((HOLE, HOLE),))
        other = Book.read("symbols a 0", "a => a")
        self.assertEqual(plain_pairs(Book({"a": 0}), other), ((((), ((),)), HOLE),))
        self.assertEqual([need_same(Book({"a": 0}), other), need_same(other, other)], [True, True])


class Same(unittest.TestCase):
    def test_by_the_needed_places_of_small_terms(self):
        seen = {True: 0, False: 0}
        for one, other in PAIRS:
            same, over, under = need_same(one, other), needs_over(one, other), needs_over(other, one)
            self.assertIs(same, over and under)
            for tree in few_trees(one.symbols, 60):
                found = term_of_tree(tree)
                mine, others = (set(Need(book, found).needed) for book in (one, other))
                if same:
                    self.assertEqual(mine, others)
                if over:
                    self.assertLessEqual(others, mine)
                if under:
                    self.assertLessEqual(mine, others)
            seen[same] += 1
        self.assertTrue(min(seen.values()) > 10, seen)

    def test_a_book_with_itself(self):
        for book in SPECIAL + [LARGE, LARGE.strong()]:
            self.assertEqual([need_same(book, book), needs_over(book, book), parting_rows(book, book),
                              parting_term(book, book)], [True, True, None, None])
            self.assertEqual(alike_paper(book, Book.read(*book.lines))[0], "same")

    def test_a_sketch_only(self):
        self.assertEqual([need_same(GUS, MORE), needs_over(MORE, GUS), needs_over(GUS, MORE)], [False, True, False])
        # Which constant stands there makes no difference here.
        one, other = (COND.with_sketch(2, term(word)) for word in "tn")
        self.assertEqual([need_same(one, other), need_same(COND, COND.strong())], [True, True])
        self.assertEqual([need_same(SEQ, SEQ.with_sketch(2, term(word))) for word in "ab"], [True, False])

    def test_the_order_of_rules(self):
        for book in SPECIAL + chance_books(114, 30):
            self.assertIs(need_same(book, Book(book.symbols, book.rules[::-1])), True)

    def test_patterns(self):
        self.assertIs(need_same(SEQ, SEQ.without(1)), False)
        turned = Book.read("symbols a 0 b 0 f 2 g 0", "f(_, a) => _", "f(a, b) => _", "g => _")
        self.assertEqual([need_same(SEQ, turned), needs_over(SEQ, turned), needs_over(turned, SEQ)], [False] * 3)
        # Rules for what never comes make no difference.
        one = Book.read("symbols a 0 b 0 f 1", "a => b")
        self.assertIs(need_same(one, one.with_rule(term("f(a)"), term("_"))), True)
        plain = Book({"a": 0, "b": 0, "f": 2, "g": 0})
        self.assertEqual([need_same(plain, SEQ), needs_over(plain, SEQ), needs_over(SEQ, plain)], [False, True, False])

    def test_books_without_rules(self):
        for symbols in [{"a": 0}, {"a": 0, "f": 1}, {"a": 0, "b": 0, "f": 3, "g": 2}]:
            self.assertIs(need_same(Book(symbols), Book(symbols)), True)

    def test_knowing_more(self):
        # [0.20]: what is needed in a book is needed in those that know more.
        some = 0
        for one, other in PAIRS:
            for more, less in ((one, other), (other, one), (one, one.strong())):
                if more.knows_more(less):
                    self.assertIs(needs_over(more, less), True)
                    some += not need_same(more, less)
        self.assertTrue(some > 5, some)

    def test_without_results(self):
        empty = Book.read("symbols a 0 f 2", "a => _", "f(_, _) => a")
        self.assertIs(need_same(empty, empty.strong()), True)
        full = Book({"a": 0, "f": 2})
        self.assertEqual([needs_over(empty, full), needs_over(full, empty)], [True, True])
        some = Book.read("symbols a 0 f 2", "f(_, _) => _")
        self.assertEqual([needs_over(empty, some), needs_over(some, empty), need_same(empty, some)],
                         [True, False, False])


class Parting(unittest.TestCase):
    def test_rows_and_terms(self):
        some = 0
        for one, other in PAIRS:
            rows, found = parting_rows(one, other), parting_term(one, other)
            if need_same(one, other):
                self.assertEqual([rows, found], [None, None])
                continue
            some += 1
            self.assertEqual([sign for sign, _ in rows].count("#"), 1)
            self.assertEqual({use for _, uses in rows for use in uses}, set(range(len(rows) - 1)))
            self.assertEqual([len(found.lost), found.unknown], [1, ()])
            self.assertEqual(self.tree_of(rows, len(rows) - 1), nested(found.nodes))
            results = [Table(book).state(found)[1] == () for book in (one, other)]
            self.assertEqual(sorted(results), [False, True])
            # Put anything ground in the place of the mark: this is needed in one book alone.
            whole = found.with_part(found.lost[0], term(one.constants[0]))
            self.assertEqual([found.lost[0] in Need(book, whole) for book in (one, other)], results)
            self.assertIs(is_alike_paper(one, other, ("parts", rows)), True)
        self.assertTrue(some > 10, some)

    def tree_of(self, rows, at):
        return (rows[at][0], *[self.tree_of(rows, use) for use in rows[at][1]])


class Papers(unittest.TestCase):
    def test_papers(self):
        for one, other in PAIRS:
            paper = alike_paper(one, other)
            if need_same(one, other):
                self.assertEqual(paper, ("same", plain_pairs(one, other), marked_pairs(one, other)))
            else:
                self.assertEqual(paper, ("parts", parting_rows(one, other)))
            self.assertIs(is_alike_paper(one, other, paper), True)

    def test_books_with_other_parts(self):
        one = Book.read("symbols a 0 b 0 f 1 g 2", "a => b")
        other = one.with_rule(term("f(a)"), term("_")).with_rule(term("g(b, _)"), term("f(b)")).without(2)
        self.assertNotEqual(anything(one), anything(other))
        for mine, beside in [(one, other), (other, one)]:
            word, plain, marked = alike_paper(mine, beside)
            self.assertEqual([word, is_alike_paper(mine, beside, (word, plain, marked))], ["same", True])
            self.assertIs(is_alike_paper(beside, mine, (word, plain, marked)), False)
            for pairs in (plain, marked):
                for pair in pairs:
                    less = [tuple(two for two in row if two != pair or row != pairs) for row in (plain, marked)]
                    self.assertIs(is_alike_paper(mine, beside, (word, *less)), False)

    def test_greater_closed_sets(self):
        chance, some = random.Random(115), 0
        for one, other in PAIRS:
            if not need_same(one, other) or len(marked_pairs(one, other)) > 6:
                continue
            slow = Slow(one, other)
            entries = slow.all_entries()
            for _ in range(4 if entries else 0):
                entry = (chance.randrange(2), self.chance_state(chance, one), self.chance_state(chance, other))
                found = entries | {entry}
                while len(found) < 14 and not slow.made_of_all(found) <= found:
                    found |= slow.made_of_all(found)
                if len(found) >= 14:
                    continue
                good = not any(entry[0] and parts(entry) for entry in found)
                self.assertIs(is_alike_paper(one, other, slow.paper_of(found)), good)
                without = slow.paper_of(found - {entry})
                is_closed = slow.made_of_all(found - {entry}) <= found - {entry} and (1, HOLE, HOLE) != entry
                better = not any(one[0] and parts(one) for one in found - {entry})
                self.assertIs(is_alike_paper(one, other, without), is_closed and better)
                some += good and len(found) > len(entries)
        self.assertTrue(some > 10, some)

    def chance_state(self, chance, book):
        can, res = anything(book)
        return tuple(tuple(sorted(chance.sample(row, chance.randint(0, len(row))))) for row in (can, res))

    def test_each_pair_is_asked_for(self):
        for book in [SEQ, COND, PLUS.full(), GUS]:
            word, plain, marked = alike_paper(book, book)
            for pair in plain:
                others = tuple(one for one in plain if one != pair)
                self.assertIs(is_alike_paper(book, book, (word, others, marked)), False)
            for pair in marked:
                others = tuple(one for one in marked if one != pair)
                self.assertIs(is_alike_paper(book, book, (word, plain, others)), False)

    def test_pairs_that_are_not_closed(self):
        word, plain, marked = alike_paper(COND, COND)
        full = anything(COND)
        further = (full, HOLE)
        self.assertNotIn(further, plain)
        self.assertIs(is_alike_paper(COND, COND, (word, tuple(sorted([*plain, further])), marked)), False)
        self.assertIs(is_alike_paper(COND, COND, (word, plain, tuple(sorted([*marked, further])))), False)
        self.assertIs(is_alike_paper(COND, COND, (word, marked, plain)), False)

    def test_results_in_one_state_alone(self):
        # Closed, and nothing but a marked pair parts.
        self.assertIs(is_alike_paper(GUS, MORE, ("same", plain_pairs(GUS, MORE), marked_pairs(GUS, MORE))), False)
        one = Book({"a": 0})
        some = ((), ((),))
        for pair, good in [((some, some), True), ((some, HOLE), False), ((HOLE, some), False)]:
            self.assertIs(is_alike_paper(one, one, ("same", ((some, some),), tuple(sorted([(HOLE, HOLE), pair])))),
                          good)
            self.assertIs(is_alike_paper(one, one, ("same", tuple(sorted({(some, some), pair})), ((HOLE, HOLE),))),
                          True)

    def test_other_rows_that_part(self):
        for rows in [(("#", ()), ("g", ()), ("f", (0, 1, 1))), (("g", ()), ("#", ()), ("f", (1, 0, 0))),
                     (("g", ()), ("#", ()), ("f", (0, 1, 0))), (("a", ()), ("#", ()), ("g", ()), ("f", (2, 2, 1))),
                     # what does not lead to the last row counts for nothing
                     (("#", ()), ("g", ()), ("f", (0, 0, 0)), ("f", (2, 2, 0)), ("f", (0, 1, 1)))]:
            self.assertIs(is_alike_paper(GUS, MORE, ("parts", rows)), True)
            self.assertIs(is_alike_paper(MORE, GUS, ("parts", rows)), True)
            self.assertIs(is_alike_paper(GUS, GUS, ("parts", rows)), False)

    def test_rows_that_do_not_part(self):
        good = (("#", ()), ("g", ()), ("f", (0, 1, 1)))
        for rows in [good[:1], (("g", ()),), (("#", ()), ("a", ()), ("f", (0, 1, 1))), (("g", ()), ("f", (0, 0, 0))),
                     (("#", ()), ("#", ()), ("g", ()), ("f", (0, 2, 2))), (("#", ()), ("g", ()), ("f", (0, 0, 1))),
                     (("#", ()), ("g", ()), ("f", (1, 1, 1))), (*good, ("g", ())), (*good, good[0]), (*good, good[2:]),
                     (("#", ()), ("_", ()), ("f", (0, 1, 1))), (("#", ()), ("g", ()), ("h", (0, 1, 1))),
                     (("#", ()), ("g", ()), ("f", (0, 1))), (("#", ()), ("g", ()), ("f", (0, 1, 2))),
                     (("#", ()), ("g", ()), ("f", (False, 1, 1))), (("#", (0,)), ("g", ()), ("f", (0, 1, 1))),
                     (("#", []), ("g", ()), ("f", (0, 1, 1))), list(good), (), None, "parts",
                     (["#", ()], *good[1:]), ((), *good[1:])]:
            self.assertIs(is_alike_paper(GUS, MORE, ("parts", rows)), False, rows)
        for value in [("same", good), ("part", good), (None, good), (("parts",), good), (good, "parts"),
                      ["parts", good],
                      ("parts", good, ()), ("parts",), good]:
            self.assertIs(is_alike_paper(GUS, MORE, value), False)

    def test_terms_that_part_without_just_one_mark(self):
        other = Book.read("symbols a 0 b 0 f 2", "b => b")
        one = other.with_rule(term("f(_, _)"), term("a"))
        mark, b, a = ("#", ()), ("b", ()), ("a", ())
        for rows, good in [((mark, a, ("f", (0, 1))), True), ((mark, ("f", (0, 0))), False),
                           ((mark, b, a, ("f", (1, 2))), False), ((mark, b, ("f", (0, 1)), ("f", (0, 2))), False),
                           ((mark, a, ("f", (0, 1)), ("f", (2, 1))), True),
                           ((mark, a, ("f", (0, 1)), ("f", (2, 2))), False),
                           ((mark, mark, ("f", (0, 1))), False), ((mark, mark, a, ("f", (0, 2))), False),
                           ((mark, ("f", (0, 0)), a, ("f", (2, 0))), True)]:
            found = [Table(book).state(self.told(rows))[1] != () for book in (one, other)]
            self.assertEqual(found, [True, False])
            for given in [(one, other), (other, one)]:
                self.assertIs(is_alike_paper(*given, ("parts", rows)), good, rows)

    def told(self, rows):
        """The term of rows, whatever stands in them."""
        found = []
        for sign, uses in rows:
            found.append(Term.build(sign, *[found[use] for use in uses]))
        return found[-1]

    def test_very_large_terms_of_rows(self):
        rows = [("#", ()), ("g", ()), ("f", (0, 1, 1)), ("a", ()), ("f", (3, 3, 3))]
        for at in range(4, 3000):
            rows.append(("f", (at, at, at)))
        # The mark stands in none of the large ones, and in very many.
        self.assertIs(is_alike_paper(GUS, MORE, ("parts", tuple(rows))), False)
        self.assertIs(is_alike_paper(GUS, MORE, ("parts", (*rows, ("f", (2, len(rows) - 1, len(rows) - 1))))), True)
        doubled = [("#", ()), *[("f", (at, at, at)) for at in range(3000)]]
        self.assertIs(is_alike_paper(GUS, MORE, ("parts", tuple(doubled))), False)
        self.assertIs(is_alike_paper(GUS, MORE, ("parts", (*[("g", ())] * 3998, ("#", ()), ("f", (3998, 0, 0))))), True)
        self.assertIs(is_alike_paper(GUS, MORE, ("parts", (*[("g", ())] * 3999, ("#", ()), ("f", (3999, 0, 0))))),
                      False)

    def test_papers_that_are_none(self):
        word, plain, marked = alike_paper(SEQ, SEQ)
        for value in [*all_kinds(), [word, plain, marked], (word, plain), (word,), (word, plain, marked, ()),
                      ("parts", plain, marked), ("alike", plain, marked), (None, plain, marked),
                      ((word,), plain, marked),
                      (word, list(plain), marked), (word, plain, list(marked)), (word, plain[::-1], marked),
                      (word, plain, marked[::-1]), (word, (*plain, plain[-1]), marked),
                      (word, plain, (*marked, marked[-1])), (word, (), ()), (word, plain, ()), (word, (), marked),
                      (word, (*plain, None), marked), (word, plain, (*marked, ())), (word, None, marked),
                      (word, tuple(list(pair) for pair in plain), marked), (word, dict(plain), marked),
                      (word, tuple((*pair, HOLE) for pair in plain), marked),
                      (word, plain, (*marked, (anything(SEQ), ((0, 1, 2), ())))),
                      (word, plain, (*marked, (((0, 1, 2), ()), HOLE))), (word, (*plain, (((9,), ()), HOLE)), marked),
                      (word, plain, (*marked, (anything(SEQ), ((0, 1), ((5,),))))),
                      ("same", (("a", ()),)), SEQ, Table(SEQ)]:
            self.assertIs(is_alike_paper(SEQ, SEQ, value), False)
        mixed = tuple(tuple((tuple(bool(part) if part < 2 else part for part in can), res) for can, res in pair)
                      for pair in plain)
        self.assertEqual(mixed, plain)
        self.assertIs(is_alike_paper(SEQ, SEQ, (word, mixed, marked)), False)


class Errors(unittest.TestCase):
    def test_in_their_order(self):
        for value in no_books():
            for call in CALLS:
                for given in [(value, 5), (value, SEQ), (SEQ, value)]:
                    self.assertIs(type(raised(call, *given)), InvalidBook)
            self.assertIs(type(raised(is_alike_paper, value, 5, 5)), InvalidBook)
            self.assertIs(type(raised(is_alike_paper, SEQ, value, 5)), InvalidBook)
        for other in [GUS, COND, SEQ.with_symbol("h", 0), Book({"a": 0, "b": 0, "f": 2, "g": 1}), Book({"a": 0})]:
            for call in CALLS:
                self.assertIs(type(raised(call, SEQ, other)), InvalidOperation)
                self.assertIs(type(raised(call, other, SEQ)), InvalidOperation)
            self.assertIs(type(raised(is_alike_paper, SEQ, other, alike_paper(SEQ, SEQ))), InvalidOperation)

    def test_too_many_pairs(self):
        self.assertEqual(module.MAX_PAIRS, 4000)
        for call in (plain_pairs, marked_pairs):
            error = raised(call, WIDE, BESIDE)
            self.assertEqual((type(error), error.limit), (TooMany, 4000))
        # Plain pairs alone can be few enough; what is met ahead of them all is told.
        near = WIDE.with_sketch(5, term("_"))
        self.assertEqual([len(plain_pairs(WIDE, near)), raised(marked_pairs, WIDE, near).limit], [2125, 4000])
        for other in (BESIDE, near):
            self.assertIs(need_same(WIDE, other), False)
            self.assertIs(is_alike_paper(WIDE, other, alike_paper(WIDE, other)), True)
        book = SPECIAL[-1]
        error = raised(needs_over, book, book.with_sketch(0, term("_")))
        self.assertEqual((type(error), error.limit), (TooMany, 4000))

    def test_a_term_of_more_than_forty_nodes(self):
        rows = [("#", ()), *[("g", (at,)) for at in range(40)]]
        kept = module.parting_rows
        module.parting_rows = lambda one, other: tuple(rows)
        try:
            error = raised(parting_term, SEQ, SEQ)
            self.assertEqual((type(error), error.limit), (TooMany, 40))
            rows.pop()
            self.assertEqual(parting_term(SEQ, SEQ), term(chain(40).replace("a", "#")))
        finally:
            module.parting_rows = kept


class Speed(unittest.TestCase):
    def test_large_books(self):
        for one, other in [(LARGE, LARGE.strong()), (WIDE, WIDE), (WIDE, WIDE.strong()), (WIDE, WIDE.without(5))]:
            paper = alike_paper(one, other)
            self.assertIs(is_alike_paper(one, other, paper), True)
            self.assertIs(paper[0] == "same", need_same(one, other))
        self.assertTrue(len(plain_pairs(WIDE, WIDE)) > 50)


if __name__ == "__main__":
    unittest.main()
