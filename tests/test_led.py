"""[0.13], [0.18], [9.1] to [9.5]: entries, rows, and books that are led or open."""

import random
import unittest

from firstneed.base.books import Book
from firstneed.errors import InvalidBook, InvalidOperation, InvalidRows, InvalidTable, InvalidTerm, TooMany
from firstneed.need.classes import result_classes
from firstneed.need.closing import least_roots
from firstneed.need.making import Maker
from firstneed.need.places import Need
from firstneed.need.tables import Table, anything, is_below
from firstneed.whole import led as module
from firstneed.whole.led import (Led, does_cover, entry_of, is_bad_entry, is_led_paper, is_rows, led_paper, rows_of,
                                 term_of)
from firstneed.whole.search import Search
from firstneed.whole.strands import entry_looms
from tests.helper import all_kinds, chain, nodes_of, parts_of, raised, term_of as term_of_tree
from tests.samples import (COND, GUS, LARGE, PLUS, SEQ, SPECIAL, chance_book, chance_books, chance_term, gapped_book,
                           no_books, term)
from tests.slow import States, few_trees, is_redex, nested, product, told, with_tree
from tests.slow import class_of as slow_class

LISTED = ("rows_with", "bad_rows", "bad_term", "__len__", "__contains__", "__eq__", "__str__")
PROPERTIES = ("book", "is_open", "is_led", "entries")
BOOKS = chance_books(101, 90)
SMALL = SPECIAL + [gapped_book(random.Random(seed)) for seed in range(12)] + [
    chance_book(random.Random(seed), words=3, rules=3, size=4) for seed in range(25)]
EMPTY = Book.read("symbols a 0 f 2", "a => _", "f(_, _) => a")
HOLE = ((), ())
NO_FLAGS = [None, 0, 1, -1, "", "True", (), (True,), [], {}, 10 ** 60, term("a")]


def least_of(states):
    """Those states that have no other ones below them."""
    return tuple(sorted({state for state in states if not any(one != state and is_below(one, state)
                                                              for one in states)}))


def slow_entry(book, slow, tree, is_open):
    """[9.1] as it stands there."""
    work = [at for at, inner in enumerate(parts_of(tree)) if is_redex(book, inner) or (is_open and inner == ("_",))]
    around = [slow.told(with_tree(tree, at, ("#",))) for at in work]
    return (slow_class(book, tree), work != [], slow.told(tree), least_of(around))


def made_entry(slow, word, entries):
    """[9.2] as it stands there: what a symbol makes of entries."""
    inner = [(set(entry[0]), set()) for entry in entries]
    row = tuple(at for at, part in enumerate(slow.parts) if slow.fits(word, part, inner))
    redex = any(slow.fits(word, pattern, inner) for pattern, _ in slow.rules)
    states = [(set(can), set(res)) for _, _, (can, res), _ in entries]
    around = [HOLE] if redex else []
    for at, entry in enumerate(entries):
        for can, res in entry[3]:
            below = [*states[:at], (set(can), set(res)), *states[at + 1:]]
            around.append(told(slow.made(word, below)))
    return (row, redex or any(entry[1] for entry in entries), told(slow.made(word, states)), least_of(around))


def slow_covers(entry, other):
    """[9.3]: whether an entry covers another one."""
    return entry[:3] == other[:3] and all(any(is_below(beside, state) for beside in other[3]) for state in entry[3])


def all_entries(book, is_open, limit=12):
    """All entries of terms by rounds, or None if there are more than the limit."""
    slow = States(book, result_classes(book)).close()
    found = {((), True, anything(book), (HOLE,))} if is_open else set()
    while True:
        made = {made_entry(slow, word, entries) for word, arity in book.symbols.items()
                for entries in product(sorted(found), repeat=arity)}
        if made <= found:
            return found
        found |= made
        if len(found) > limit:
            return None


class Interface(unittest.TestCase):
    def test_interface(self):
        self.assertEqual(module.MAX_ENTRIES, 4000)
        for name in LISTED:
            self.assertIn(name, vars(Led))
        for name in PROPERTIES:
            self.assertTrue(hasattr(Led(SEQ), name))
        with self.assertRaises(TypeError):
            iter(Led(SEQ))


class Entries(unittest.TestCase):
    def test_of_terms_by_a_second_reading(self):
        chance = random.Random(102)
        for book in BOOKS:
            slow = States(book, result_classes(book)).close()
            for is_open in (False, True):
                one = chance_term(chance, book.symbols, chance.choice([2, 6, 12]), leaves=("_",) if is_open else ())
                self.assertEqual(entry_of(book, one, is_open=is_open),
                                 slow_entry(book, slow, nested(one.nodes), is_open))
                if one.is_ground:
                    self.assertEqual(entry_of(book, one), entry_of(book, one, is_open=True))

    def test_by_other_tables(self):
        chance = random.Random(103)
        for book in BOOKS:
            rows = {key: anything(book) for key in Table(book).mapping}
            slow = States(book, result_classes(book), rows)
            one = chance_term(chance, book.symbols, 8, leaves=())
            entry = slow_entry(book, slow, nested(one.nodes), False)
            for table in (rows, Table(book, rows)):
                self.assertEqual(entry_of(book, one, table), entry)
                self.assertEqual(entry_of(book, one, table=table), entry)
            for table in (None, Table(book), Table(book).mapping):
                self.assertEqual(entry_of(book, one, table), entry_of(book, one))

    def test_an_entry_hangs_on_those_of_the_arguments_alone(self):
        chance = random.Random(104)
        for book in BOOKS:
            slow = States(book, result_classes(book)).close()
            one = chance_term(chance, book.symbols, 9, leaves=("_",))
            entries = [entry_of(book, one.part(at), is_open=True) for at in one.children(0)]
            if one.text != "_":
                self.assertEqual(entry_of(book, one, is_open=True), made_entry(slow, one[0][0], entries))

    def test_of_the_leaf(self):
        for book in BOOKS:
            self.assertEqual(entry_of(book, term("_"), is_open=True), ((), True, anything(book), (HOLE,)))

    def test_bad_ones(self):
        chance = random.Random(105)
        seen = {True: 0, False: 0}
        for book in SMALL:
            for is_open in (False, True):
                trees = few_trees(book.symbols, 60, ("_",) if is_open else ())
                for one in [term_of_tree(tree) for tree in chance.sample(trees, min(len(trees), 30))]:
                    need = Need(book, one)
                    bad = not need.is_done and need.both == ()
                    self.assertIs(is_bad_entry(entry_of(book, one, is_open=is_open)), bad)
                    seen[bad] += 1
        self.assertTrue(min(seen.values()) > 5, seen)
        some = ((), ((),))
        for flag, around, told_bad in [(True, (), True), (False, (), False), (True, (some,), True),
                                       (False, (some,), False),
                                       (True, (HOLE,), False), (True, (HOLE, some), False),
                                       (True, (some, ((1,), ())), False)]:
            self.assertIs(is_bad_entry(((), flag, HOLE, around)), told_bad)
            self.assertIs(is_bad_entry(((7, 10 ** 59), flag, ((9,), ((3,), (4, 5))), around)), told_bad)

    def test_covering(self):
        chance = random.Random(106)
        states = [((can,) if can < 2 else (), res) for can in range(3) for res in [(), ((),), ((), (0,)), ((0,),)]]
        seen = {True: 0, False: 0}
        for _ in range(600):
            one, other = [(chance.choice([(), (0,)]), True, HOLE, tuple(sorted({chance.choice(states) for _ in range(
                chance.randint(0, 3))}))) for _ in range(2)]
            self.assertIs(does_cover(one, other), slow_covers(one, other))
            self.assertIs(does_cover(one, one), True)
            seen[slow_covers(one, other)] += 1
        self.assertTrue(min(seen.values()) > 50)
        base = ((0,), True, HOLE, (HOLE,))
        for other in [((1,), *base[1:]), (base[0], False, *base[2:]), (*base[:2], ((0,), ()), base[3])]:
            self.assertEqual([does_cover(base, other), does_cover(other, base)], [False, False])
        self.assertEqual([does_cover((*base[:3], ()), base), does_cover(base, (*base[:3], ()))], [True, False])

    def test_forms_of_entries(self):
        good = ((0, 2), True, ((1,), ((), (3,))), (HOLE, ((), ((),))))
        self.assertIs(is_bad_entry(good), False)
        wrong = [*all_kinds(), good[:3], (*good, ()), list(good), ([0], *good[1:]), ((2, 0), *good[1:]),
                 ((0, 0), *good[1:]),
                 ((True,), *good[1:]), ((-1,), *good[1:]), (0, *good[1:]), ((10 ** 60,), *good[1:])]
        wrong += [(good[0], flag, *good[2:]) for flag in NO_FLAGS]
        for state in [*all_kinds(), ((1,),), ((1,), (), ()), [(1,), ()], ((1,), ((3,), ())), ((1, 0), ()),
                      ((1,), ((False,),)),
                      ((True,), ()), ((1,), (0,)), ((1,), [()]), ((-1,), ())]:
            wrong += [(*good[:2], state, good[3]), (*good[:3], (state,))]
        wrong += [(*good[:3], around) for around in [[HOLE], good[3][::-1], (HOLE, HOLE), HOLE + (1,), {HOLE: 1}, None]]
        for value in wrong:
            for call in (lambda: is_bad_entry(value), lambda: does_cover(value, good), lambda: does_cover(good, value)):
                if value != (*good[:3], ()):
                    self.assertIs(type(raised(call)), InvalidOperation, value)

    def test_errors_in_their_order(self):
        good = Table(SEQ).mapping
        for value in no_books():
            self.assertIs(type(raised(lambda: entry_of(value, 5, 5, is_open=5))), InvalidBook)
        for value in [one for one in all_kinds() if one not in (term("a"), term("_"))] + [
                term("h"), term("f(a)"), term("#"), term("f(#, a)"), SEQ]:
            for flag in (False, True, None):
                self.assertIs(type(raised(lambda: entry_of(SEQ, value, 5, is_open=flag))), InvalidTerm)
        for value in [term("_"), term("f(_, a)")]:
            self.assertIs(type(raised(lambda: entry_of(SEQ, value, 5))), InvalidTerm)
            self.assertEqual(entry_of(SEQ, value, is_open=True)[1], True)
        for wrong in [*all_kinds(), {**good, (0, 0): HOLE}, {**good, (3, 0): HOLE}, Table(GUS), SEQ, Led(SEQ),
                      Table(SEQ.with_symbol("h", 0)), {(True if rule == 1 else rule, at): good[(rule, at)] for rule,
                                                       at in good}]:
            if wrong is not None:
                self.assertIs(type(raised(lambda: entry_of(SEQ, term("a"), wrong, is_open=5))), InvalidTable)
        for wrong in NO_FLAGS:
            self.assertIs(type(raised(lambda: entry_of(SEQ, term("a"), good, is_open=wrong))), InvalidOperation)


class Rows(unittest.TestCase):
    def test_rows_of_terms(self):
        chance = random.Random(107)
        for book in BOOKS:
            for is_open in (False, True):
                one = chance_term(chance, book.symbols, chance.choice([1, 9, 40]), leaves=("_",) if is_open else ())
                rows = rows_of(book, one, is_open=is_open)
                ends, tree = [], nested(one.nodes)
                self.note_ends(tree, ends)
                self.assertEqual([self.tree_of(rows, at) for at in range(len(rows))], ends)
                self.assertIs(is_rows(book, rows, is_open=is_open), True)
                self.assertEqual(term_of(book, rows, is_open=is_open), one)
                self.assertIs(is_rows(book, rows), one.is_ground)

    def note_ends(self, tree, ends):
        """The parts of a tree, each once, in the order in which they end."""
        for inner in tree[1:]:
            self.note_ends(inner, ends)
        if tree not in ends:
            ends.append(tree)

    def tree_of(self, rows, at):
        return (rows[at][0], *[self.tree_of(rows, use) for use in rows[at][1]])

    def test_an_example(self):
        self.assertEqual(rows_of(SEQ, term("f(g, f(a, g))")), (("g", ()), ("a", ()), ("f", (1, 0)), ("f", (0, 2))))
        self.assertEqual(term_of(SEQ, (("b", ()), ("a", ()), ("g", ()), ("f", (1, 1)), ("f", (3, 0)))).text,
                         "f(f(a, a), b)")
        self.assertEqual(rows_of(SEQ, term("f(_, _)"), is_open=True), (("_", ()), ("f", (0, 0))))

    def test_no_rows(self):
        good = (("a", ()), ("f", (0, 0)))
        self.assertIs(is_rows(SEQ, good), True)
        for value in [*all_kinds(), list(good), good[1:], (), good[::-1], (["a", ()],), (("a", []),), (("a",),),
                      (("a", (), ()),),
                      (*good, ("f", (0,))), (*good, ("f", (0, 0, 0))), (*good, ("f", (0, 2))), (*good, ("f", (0, -1))),
                      (*good, ("f", (0, True))), (*good, ("f", (False, 0))), (*good, ("a", (0,))), (*good, ("h", ())),
                      (*good, ("#", ())), (*good, ("f", (0, 10 ** 60))), (*good, (("a",), ())), (*good, (5, ())),
                      (*good, (None, ())), (*good, ([], ())), (*good, ("_", (0,))), (*good, ("", ())),
                      (*good, ("f", ("a", "a")))]:
            for is_open in (False, True):
                self.assertIs(is_rows(SEQ, value, is_open=is_open), False, value)
                self.assertIs(type(raised(lambda: term_of(SEQ, value, is_open=is_open))), InvalidRows)
        self.assertEqual([is_rows(SEQ, (("_", ()),)), is_rows(SEQ, (("_", ()),), is_open=True)], [False, True])
        self.assertIs(type(raised(lambda: term_of(SEQ, (("_", ()),)))), InvalidRows)

    def test_one_to_four_thousand_rows(self):
        rows = (("a", ()), *[("f", (at, at)) for at in range(3999)])
        self.assertIs(is_rows(SEQ, rows), True)
        error = raised(term_of, SEQ, rows)
        self.assertEqual((type(error), error.limit), (TooMany, 40))
        self.assertEqual(term_of(SEQ, (*rows[:3999], ("b", ()))), term("b"))
        self.assertIs(is_rows(SEQ, (*rows, ("a", ()))), False)
        self.assertIs(type(raised(term_of, SEQ, (*rows, ("a", ())))), InvalidRows)

    def test_forty_nodes(self):
        book = Book({"a": 0, "g": 1})
        rows = (("a", ()), *[("g", (at,)) for at in range(40)])
        self.assertEqual(term_of(book, rows[:40]), term(chain(40)))
        error = raised(term_of, book, rows)
        self.assertEqual((type(error), error.limit), (TooMany, 40))

    def test_errors_in_their_order(self):
        for value in no_books():
            for call in (is_rows, term_of, rows_of):
                self.assertIs(type(raised(lambda: call(value, 5, is_open=5))), InvalidBook)
        large = (("a", ()), *[("f", (at, at)) for at in range(9)])
        for wrong in NO_FLAGS:
            for value in (5, (("a", ()),)):
                self.assertIs(type(raised(lambda: is_rows(SEQ, value, is_open=wrong))), InvalidOperation)
            self.assertIs(type(raised(lambda: term_of(SEQ, (), is_open=wrong))), InvalidRows)
            self.assertIs(type(raised(lambda: term_of(SEQ, large, is_open=wrong))), InvalidOperation)
            self.assertIs(type(raised(lambda: rows_of(SEQ, term("a"), is_open=wrong))), InvalidOperation)
            self.assertIs(type(raised(lambda: rows_of(SEQ, term("h"), is_open=wrong))), InvalidTerm)
        for value in [one for one in all_kinds() if one not in (term("a"), term("_"))] + [term("h"), term("#")]:
            for is_open in (False, True):
                self.assertIs(type(raised(lambda: rows_of(SEQ, value, is_open=is_open))), InvalidTerm)
        self.assertIs(type(raised(rows_of, SEQ, term("_"))), InvalidTerm)


class Worst(unittest.TestCase):
    def test_by_all_entries(self):
        seen = {True: 0, False: 0}
        for book in SMALL:
            for is_open in (False, True):
                entries = all_entries(book, is_open)
                if entries is None:
                    continue
                led = Led(book, is_open=is_open)
                worst = sorted(entry for entry in entries if not any(
                    other != entry and slow_covers(other, entry) for other in entries))
                self.assertEqual(led.entries, tuple(worst))
                is_led = not any(is_bad_entry(entry) for entry in entries)
                self.assertIs(led.is_led, is_led)
                seen[is_led] += 1
        self.assertTrue(min(seen.values()) > 5, seen)

    def test_by_all_small_terms(self):
        for book in BOOKS:
            for is_open in (False, True):
                led, bad = Led(book, is_open=is_open), []
                slow = States(book, result_classes(book)).close()
                for tree in few_trees(book.symbols, 40, ("_",) if is_open else ()):
                    entry = slow_entry(book, slow, tree, is_open)
                    self.assertTrue(any(slow_covers(worst, entry) for worst in led.entries))
                    if is_bad_entry(entry):
                        bad.append(tree)
                if bad:
                    self.assertIs(led.is_led, False)
                    self.assertTrue(len(led.bad_term()) <= len(nodes_of(bad[0])))

    def test_what_is_told(self):
        led = Led(SEQ)
        self.assertEqual([led.book, led.is_open, led.is_led, len(led)], [SEQ, False, True, len(led.entries)])
        self.assertEqual([Led(GUS).is_led, Led(COND).is_led, Led(SEQ, is_open=True).is_led, Led(PLUS.full()).is_led],
                         [False, True, True, True])
        for book in BOOKS:
            for is_open in (False, True):
                led = Led(book, is_open=is_open)
                word = "led" if led.is_led else "bad"
                self.assertEqual([str(led), led.is_open], [f"{len(led.entries)} entries, {word}", is_open])
                self.assertEqual(list(led.entries), sorted(led.entries))

    def test_entries_in_it(self):
        led = Led(SEQ)
        for entry in led.entries:
            self.assertIn(entry, led)
            for value in [list(entry), entry[:3], (entry[0], int(entry[1]), *entry[2:]), (*entry[:3], list(entry[3]))]:
                self.assertNotIn(value, led)
        strange = [(tuple(bool(at) for at in entry[0]), *entry[1:]) for entry in led.entries if entry[0]]
        self.assertTrue(strange)
        for value in [*all_kinds(), *strange, led.entries, ((5,), True, HOLE, ()), ((), True, HOLE, (HOLE,))]:
            self.assertNotIn(value, led)
            self.assertIs(type(raised(led.rows_with, value)), InvalidOperation)

    def test_rows_with_entries(self):
        for book in BOOKS + SMALL:
            for is_open in (False, True):
                led = Led(book, is_open=is_open)
                for entry in led.entries[:25]:
                    rows = led.rows_with(entry)
                    self.assertIs(is_rows(book, rows, is_open=is_open), True)
                    self.assertEqual({use for _, uses in rows for use in uses}, set(range(len(rows) - 1)))
                    self.assertEqual(self.entry_of_rows(book, rows, is_open), entry)

    def entry_of_rows(self, book, rows, is_open):
        """The entry of the term of rows, which can be large, by [9.2]."""
        slow = States(book, result_classes(book)).close()
        found = []
        for word, uses in rows:
            if word == "_":
                found.append(((), True, anything(book), (HOLE,)))
            else:
                found.append(made_entry(slow, word, [found[use] for use in uses]))
        if len(rows) < 5:
            self.assertEqual(found[-1], entry_of(book, term_of(book, rows, is_open=is_open), is_open=is_open))
        return found[-1]

    def test_bad_terms(self):
        some = 0
        for book in BOOKS + SMALL:
            for is_open in (False, True):
                led = Led(book, is_open=is_open)
                if led.is_led:
                    for call in (led.bad_rows, led.bad_term):
                        self.assertIs(type(raised(call)), InvalidOperation)
                    continue
                some += 1
                rows, one = led.bad_rows(), led.bad_term()
                self.assertEqual(term_of(book, rows, is_open=is_open), one)
                need = Need(book, one)
                self.assertTrue(one.is_ground or is_open)
                self.assertEqual([need.is_done, need.both], [False, ()])
        self.assertTrue(some > 20)

    def test_more_entries_than_a_limit(self):
        for book in SMALL:
            maker = Maker(book)
            roots = least_roots(maker)
            search = Search(entry_looms(maker, roots, False), module.MAX_ENTRIES)
            search.run_out()
            many = len(Led(book))
            self.assertEqual([search.worst.count, len(search.worst.kept())], [many, many])
            error = raised(Search(entry_looms(maker, roots, False), many - 1).run_out)
            self.assertEqual((type(error), error.limit), (TooMany, many - 1))
        alone = Search(entry_looms(Maker(Book({"a": 0})), [], False), 1)
        alone.run_out()
        self.assertEqual(alone.worst.count, 1)

    def test_equality(self):
        led = Led(SEQ)
        for value in [*all_kinds(), SEQ, led.entries, Led(GUS), Led(SEQ, is_open=True), Led(SEQ.with_symbol("h", 0))]:
            self.assertFalse(led == value)
            self.assertTrue(led != value)
        self.assertEqual([led, Led(SEQ, is_open=True)], [Led(Book.read(*SEQ.lines)), Led(SEQ, is_open=True)])

    def test_errors(self):
        for value in no_books():
            for call in (Led, led_paper):
                self.assertIs(type(raised(lambda: call(value, is_open=5))), InvalidBook)
            self.assertIs(type(raised(lambda: is_led_paper(value, 5, is_open=5))), InvalidBook)
        for wrong in NO_FLAGS:
            for call in (Led, led_paper):
                self.assertIs(type(raised(lambda: call(SEQ, is_open=wrong))), InvalidOperation)
            self.assertIs(type(raised(lambda: is_led_paper(SEQ, 5, is_open=wrong))), InvalidOperation)


class Statements(unittest.TestCase):
    def test_knowing_more(self):
        for book in BOOKS + SMALL:
            for is_open in (False, True):
                if Led(book.strong(), is_open=is_open).is_led:
                    self.assertIs(Led(book, is_open=is_open).is_led, True)

    def test_open_books_are_led(self):
        for book in BOOKS + SMALL:
            self.assertTrue(Led(book).is_led or not Led(book, is_open=True).is_led)

    def test_without_results(self):
        for is_open in (False, True):
            self.assertIs(Led(EMPTY, is_open=is_open).is_led, True)
            self.assertIs(is_led_paper(EMPTY, led_paper(EMPTY, is_open=is_open), is_open=is_open), True)

    def test_what_is_not_true(self):
        # [0.23]: a symbol more, or a rule less, can be one too many.
        book = Book.read("symbols a 0 f 2", "a => _", "f(_, a) => _", "f(a, _) => _")
        self.assertEqual([Led(book).is_led, Led(book.with_symbol("h", 0)).is_led, Led(book.without(0)).is_led],
                         [True, False, False])
        # Books with overlaps can be led.
        both = Book.read("symbols a 0 b 0 f 2 g 0", "f(_, _) => b", "f(a, _) => b", "g => _")
        self.assertEqual([Led(both).is_led, Led(both, is_open=True).is_led], [True, True])


class Papers(unittest.TestCase):
    def test_papers(self):
        for book in BOOKS + SMALL:
            for is_open in (False, True):
                paper, led = led_paper(book, is_open=is_open), Led(book, is_open=is_open)
                if led.is_led:
                    self.assertEqual(paper, ("led", Table(book).mapping, led.entries))
                else:
                    self.assertEqual([paper[0], is_rows(book, paper[1], is_open=is_open), len(paper)], ["bad", True, 2])
                self.assertIs(is_led_paper(book, paper, is_open=is_open), True)

    def test_all_entries_are_a_paper_too(self):
        some = 0
        for book in SMALL:
            for is_open in (False, True):
                entries = all_entries(book, is_open)
                if entries is not None and Led(book, is_open=is_open).is_led:
                    paper = ("led", Table(book).mapping, tuple(sorted(entries)))
                    self.assertIs(is_led_paper(book, paper, is_open=is_open), True)
                    some += 1
        self.assertTrue(some > 10)

    def test_by_a_greater_table(self):
        seen = {True: 0, False: 0}
        for book in SMALL:
            rows = {key: anything(book) for key in Table(book).mapping}
            slow = States(book, result_classes(book), rows)
            found = set()
            for _ in range(8):
                found |= {made_entry(slow, word, entries) for word, arity in book.symbols.items()
                          for entries in product(sorted(found), repeat=arity)}
                if len(found) > 12:
                    break
            else:
                entries = tuple(sorted(found))
                good = not any(is_bad_entry(entry) for entry in entries)
                self.assertIs(is_led_paper(book, ("led", rows, entries)), good)
                seen[good] += 1
        self.assertTrue(min(seen.values()) > 0, seen)

    def test_each_entry_of_a_paper_is_asked_for(self):
        for book in [SEQ, COND, PLUS.full(), SPECIAL[10]]:
            for is_open in (False, True):
                kind, table, entries = led_paper(book, is_open=is_open)
                for entry in entries:
                    others = tuple(one for one in entries if one != entry)
                    self.assertIs(is_led_paper(book, (kind, table, others), is_open=is_open), False)

    def test_led_papers_that_are_none(self):
        kind, table, entries = led_paper(SEQ)
        for value in [*all_kinds(), [kind, table, entries], (kind, table), (kind, table, entries, ()),
                      ("bad", table, entries),
                      ("open", table, entries), (kind, Table(SEQ), entries), (kind, {**table, (0, 0): HOLE}, entries),
                      (kind, table, list(entries)), (kind, table, entries[::-1]),
                      (kind, table, (*entries, entries[-1])),
                      (kind, table, ()), (kind, None, entries), ((kind,), table, entries), (None, table, entries),
                      (kind, table, (*entries, ((5,), True, HOLE, (HOLE,)))), (kind, table, (*entries, None)),
                      (kind, table, tuple((row, int(flag), state, around) for row, flag, state, around in entries))]:
            self.assertIs(is_led_paper(SEQ, value), False)
        bad = ((0, 1), True, anything(SEQ), (anything(SEQ),))
        self.assertIs(is_led_paper(SEQ, (kind, table, tuple(sorted([*entries, bad])))), False)
        closed = Book.read("symbols a 0 b 0 c 0 f 2", "c => a", "f(a, b) => a")
        self.assertEqual([is_led_paper(closed, led_paper(closed), is_open=flag) for flag in (False, True)],
                         [True, False])
        self.assertIs(is_led_paper(GUS, ("led", Table(GUS).mapping, Led(GUS).entries)), False)

    def test_bad_papers_that_are_none(self):
        rows = (("g", ()), ("f", (0, 0, 0)))
        self.assertIs(is_led_paper(GUS, ("bad", rows)), True)
        for value in [("bad", rows[:1]), ("bad", list(rows)), ("bad", (*rows, ("a", ()))), ("bad", rows, ()),
                      ["bad", rows],
                      ("led", rows), ("bad",), ("bad", ()), ("bad", None), ("bad", (("a", ()), ("f", (0, 0, 0)))),
                      ("bad", (("_", ()), ("f", (0, 0, 0)))), ("bad", term("f(g, g, g)")), (("bad",), rows), rows]:
            self.assertIs(is_led_paper(GUS, value), False)
        self.assertIs(is_led_paper(GUS, ("bad", (("_", ()), ("f", (0, 0, 0)))), is_open=True), True)

    def test_bad_terms_can_be_large(self):
        deep = [("g", ()), ("f", (0, 0, 0))]
        for at in range(1, 60):
            deep.append(("f", (at, at, at)))
        self.assertIs(type(raised(term_of, GUS, tuple(deep))), TooMany)
        self.assertIs(is_led_paper(GUS, ("bad", tuple(deep))), True)


class Speed(unittest.TestCase):
    def test_large_books(self):
        wide = Book.read("symbols a 0 b 0 c 3 d 0 f 3 g 0 h 1 k 1", "h(f(a, _, _)) => b", "h(f(_, a, _)) => a",
                         "h(f(_, _, a)) => d", "k(f(b, _, _)) => a", "k(f(_, b, _)) => a", "f(_, b, d) => b")
        for book in (LARGE, LARGE.strong(), wide):
            for is_open in (False, True):
                led = Led(book, is_open=is_open)
                self.assertIs(is_led_paper(book, led_paper(book, is_open=is_open), is_open=is_open), True)
                self.assertTrue(len(led.entries) > 1)


if __name__ == "__main__":
    unittest.main()
