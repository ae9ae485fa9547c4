"""[0.14], [0.15], [6.1], [6.2]: states and tables."""

import random
import unittest

from firstneed.base.books import Book
from firstneed.errors import (InvalidBook, InvalidNumber, InvalidOperation, InvalidTable, InvalidTerm, UnknownPlace,
                              UnknownWord)
from firstneed.need import tables
from firstneed.need.classes import class_of, parts_of, result_classes
from firstneed.need.tables import HOLE, Table, anything, is_below, is_closed, is_state, is_table
from tests.helper import all_kinds, parts_of as trees_in, raised, term_of
from tests.samples import COND, GUS, LARGE, SEQ, SPECIAL, chance_books, chance_term, no_books, term
from tests.slow import States, few_trees, is_result, nested, reached, told
from tests.slow import class_of as slow_class

LISTED = ("is_least", "of", "made", "fired", "state", "states", "assuming", "joined", "shared", "is_within", "__len__",
          "__eq__", "__str__")
BOOKS = chance_books(61, 90)
EMPTY = Book.read("symbols a 0 f 2", "a => _", "f(_, _) => a")
ALL = ((0, 1), ((), (0,), (1,)))


def some_of(chance, row):
    """A part of a row, in its order."""
    return tuple(one for one in row if chance.random() < 0.5)


def chance_state(chance, book):
    """A state of the book by chance."""
    can, res = anything(book)
    return (some_of(chance, can), some_of(chance, res))


def chance_table(chance, book):
    """A closed table of the book by chance."""
    table = Table(book)
    for rule, place in table.mapping:
        if chance.random() < 0.3:
            table = table.assuming(rule, place, chance_state(chance, book))
    return table


def sets(state):
    return set(state[0]), set(state[1])


def rows_told(states):
    return {key: told(state) for key, state in states.sketches.items()}


def wrong_states():
    """Values that are no states of SEQ."""
    return [*all_kinds(), ((0,),), ((0,), (), ()), [(0,), ()], ([0], ()), ((0,), []), ((1, 0), ()),
            ((0, 0), ()), ((2,), ()),
            ((-1,), ()), ((True,), ()), ((0,), ((2,),)), ((0,), ((0, 1),)), ((0,), ((0,), ())), ((), ((), ())),
            ((), ((False,),)), ((), ([0],)), ((), ("",)), ((10 ** 59,), ()), ((0,), ((10 ** 59,),)), ((0.5,), ())]


class Interface(unittest.TestCase):
    def test_interface(self):
        self.assertEqual(HOLE, ((), ()))
        self.assertEqual(tables.HOLE, ((), ()))
        for name in LISTED:
            self.assertIn(name, vars(Table))
        for table in (Table(SEQ), Table(SEQ, Table(SEQ).mapping), Table(SEQ).assuming(0, 0, HOLE)):
            self.assertTrue(hasattr(table, "book") and hasattr(table, "mapping"))

    def test_no_iteration(self):
        with self.assertRaises(TypeError):
            iter(Table(SEQ))

    def test_no_books(self):
        for value in no_books():
            for call in (is_state, is_table, is_closed, Table):
                self.assertIs(type(raised(call, value, 5)), InvalidBook)
            for call in (Table, anything):
                self.assertIs(type(raised(call, value)), InvalidBook)


class StatesOfBooks(unittest.TestCase):
    def test_states(self):
        chance = random.Random(62)
        for book in BOOKS:
            self.assertEqual(anything(book), (tuple(range(len(parts_of(book)))), result_classes(book)))
            for state in [HOLE, anything(book), chance_state(chance, book), chance_state(chance, book)]:
                self.assertIs(is_state(book, state), True)

    def test_no_states(self):
        for value in wrong_states():
            self.assertIs(is_state(SEQ, value), False, value)
        self.assertIs(is_state(EMPTY, ((), ((),))), False)
        self.assertIs(is_state(COND, ((0, 1), ((),))), False)

    def test_below(self):
        chance = random.Random(63)
        for book in BOOKS:
            one, other = chance_state(chance, book), chance_state(chance, book)
            told_below = set(one[0]) <= set(other[0]) and set(one[1]) <= set(other[1])
            self.assertIs(is_below(one, other), told_below)
            for state in (one, other):
                self.assertTrue(is_below(HOLE, state) and is_below(state, anything(book)) and is_below(state, state))

    def test_below_hangs_on_no_book_and_no_order(self):
        self.assertIs(is_below(((5, 3, 3), ((9, 1), ())), ((3, 4, 5), ((), (1,), (9, 1)))), True)
        self.assertIs(is_below(((5,), ((1, 9),)), ((3, 5), ((9, 1),))), False)
        self.assertIs(is_below(((10 ** 59,), ()), ((), ())), False)

    def test_errors_of_below(self):
        wrong = [*all_kinds(), ((0,),), ((0,), (), ()), [(0,), ()], ([0], ()), ((0,), [()]), ((-1,), ()), ((True,), ()),
                 ((), (0,)), ((), ((-1,),)), ((), ((False,),)), ((10 ** 60,), ()), (("a",), ()), ((), ("a",)), ((), "")]
        for value in wrong:
            self.assertIs(type(raised(is_below, value, HOLE)), InvalidTable, value)
            self.assertIs(type(raised(is_below, HOLE, value)), InvalidTable, value)
            self.assertIs(type(raised(is_below, value, value)), InvalidTable, value)


class LeastTables(unittest.TestCase):
    def test_by_rounds_over_the_sketches(self):
        for book in BOOKS:
            table = Table(book)
            self.assertEqual(table.mapping, rows_told(States(book, result_classes(book)).close()))
            self.assertEqual(list(table.mapping), sorted(table.mapping))
            self.assertIs(table.is_least(), True)
            self.assertEqual([is_table(book, table.mapping), is_closed(book, table.mapping)], [True, True])
            self.assertEqual(Table(book, table.mapping), table)

    def test_by_all_ways_of_small_terms(self):
        seen = 0
        for book in SPECIAL + BOOKS[-30:]:
            small = few_trees(book.symbols, 6)
            table = Table(book)
            for tree in few_trees(book.symbols, 12, ("_", "#")):
                can, res = set(), set()
                for behind in reached(book, tree, small, 7, 60):
                    can |= set(slow_class(book, behind))
                    if is_result(book, behind):
                        res.add(slow_class(book, behind))
                state = table.state(term_of(tree))
                self.assertTrue(can <= set(state[0]) and res <= set(state[1]), (book.lines, tree))
                seen += (can, res) == sets(state)
        self.assertTrue(seen > 200)

    def test_the_states_of_leaves(self):
        for book in BOOKS:
            table = Table(book)
            self.assertEqual([table.state(term("_")), table.state(term("#"))], [anything(book), HOLE])

    def test_results_and_their_classes(self):
        for book in BOOKS:
            table = Table(book)
            for tree in few_trees(book.symbols, 30):
                if is_result(book, tree):
                    one = term_of(tree)
                    self.assertEqual(table.state(one), (class_of(book, one), (class_of(book, one),)))

    def test_books_without_rules(self):
        for book in [Book({"a": 0}), Book({"a": 0, "f": 3})]:
            table = Table(book)
            self.assertEqual([table.mapping, len(table), str(table)], [{}, 0, "0 nodes, 0 of them without results"])
            self.assertEqual([is_closed(book, {}), Table(book, {}) == table], [True, True])

    def test_texts(self):
        book = Book.read("symbols a 0 b 0 f 2", "a => f(a, b)", "f(_, _) => f(a, a)")
        self.assertEqual(str(Table(book)), "6 nodes, 5 of them without results")
        self.assertEqual([len(Table(book)), len(Table(COND)), len(Table(LARGE))], [6, 3, 22])


class ClosedTables(unittest.TestCase):
    def test_made_and_fired(self):
        chance = random.Random(64)
        for book in BOOKS:
            table = chance_table(chance, book)
            slow = States(book, result_classes(book), table.mapping)
            for word, arity in book.symbols.items():
                states = tuple(chance_state(chance, book) for _ in range(arity))
                below = [sets(state) for state in states]
                self.assertEqual(table.made(word, states), told(slow.made(word, below)))
                fitting = [rule for rule, (pattern, _) in enumerate(slow.rules) if slow.fits(word, pattern, below)]
                self.assertEqual(table.fired(word, states), tuple(fitting))

    def test_states_of_terms(self):
        chance = random.Random(65)
        for book in BOOKS:
            table = chance_table(chance, book)
            slow = States(book, result_classes(book), table.mapping)
            one = chance_term(chance, book.symbols, 14, leaves=("_", "#"))
            trees = trees_in(nested(one.nodes))
            self.assertEqual(table.states(one), tuple(slow.told(tree) for tree in trees))
            self.assertEqual(table.state(one), slow.told(trees[0]))
            self.assertEqual([table.of(rule) for rule in range(len(book))],
                             [table.mapping[(rule, 0)] for rule in range(len(book))])

    def test_each_closed_table_tells_at_least_what_the_least_one_tells(self):
        chance = random.Random(66)
        for book in BOOKS:
            least, table = Table(book), chance_table(chance, book)
            one = chance_term(chance, book.symbols, 9, leaves=("_", "#"))
            self.assertTrue(is_below(least.state(one), table.state(one)))
            self.assertIs(least.is_within(table), True)
            self.assertIs(table.is_within(least), table == least)
            self.assertIs(table.is_least(), table == least)

    def test_which_tables_are_closed(self):
        chance = random.Random(67)
        seen = {True: 0, False: 0}
        for book in BOOKS:
            for _ in range(3):
                rows = dict(chance_table(chance, book).mapping)
                for key in rows:
                    if chance.random() < 0.2:
                        rows[key] = chance_state(chance, book)
                slow = States(book, result_classes(book), rows)
                closed = all(made[0] <= slow.sketches[key][0] and made[1] <= slow.sketches[key][1]
                             for key, made in [(key, slow.made_at(*key)) for key in rows])
                self.assertIs(is_table(book, rows), True)
                self.assertIs(is_closed(book, rows), closed)
                seen[closed] += 1
                if closed:
                    self.assertEqual(Table(book, rows).mapping, rows)
                else:
                    self.assertIs(type(raised(Table, book, rows)), InvalidTable)
        self.assertTrue(min(seen.values()) > 20)

    def test_the_greatest_table(self):
        for book in BOOKS:
            rows = {key: anything(book) for key in Table(book).mapping}
            self.assertIs(is_closed(book, rows), True)
            self.assertEqual(Table(book, dict(reversed(rows.items()))).mapping, rows)

    def test_no_tables(self):
        good = Table(SEQ).mapping
        self.assertEqual(good, {(0, 0): ALL, (1, 0): ALL, (2, 0): ALL})
        for value in [*all_kinds(), Table(SEQ), list(good.items()), {**good, (3, 0): ALL}, {**good, (0, 1): ALL},
                      {key: good[key] for key in list(good)[1:]}, {(rule, False): ALL for rule in range(3)},
                      {(0, 0): ALL, (True, 0): ALL, (2, 0): ALL}, {(rule, 0, 0): ALL for rule in range(3)},
                      {rule: ALL for rule in range(3)}, {**good, "a": ALL}, {(0, 0): ALL, (1, 0): ALL, (2, 1): ALL}]:
            self.assertEqual([is_table(SEQ, value), is_closed(SEQ, value)], [False, False], value)
            if value is not None:
                self.assertIs(type(raised(Table, SEQ, value)), InvalidTable)
        for wrong in wrong_states():
            rows = {**good, (1, 0): wrong}
            self.assertEqual([is_table(SEQ, rows), is_closed(SEQ, rows)], [False, False])
        self.assertEqual([is_table(SEQ, {**good, (1, 0): HOLE}), is_closed(SEQ, {**good, (1, 0): HOLE})], [True, False])


class Changed(unittest.TestCase):
    def test_assuming(self):
        chance = random.Random(68)
        for book in BOOKS:
            table = chance_table(chance, book)
            before = table.mapping
            for rule, place in before:
                state = chance_state(chance, book)
                slow = States(book, result_classes(book), table.mapping)
                slow.sketches[(rule, place)][0].update(state[0])
                slow.sketches[(rule, place)][1].update(state[1])
                self.assertEqual(table.assuming(rule, place, state).mapping, rows_told(slow.close()))
                self.assertEqual(table.mapping, before)

    def test_joined_and_shared(self):
        chance = random.Random(69)
        for book in BOOKS:
            one, other = chance_table(chance, book), chance_table(chance, book)
            slow = States(book, result_classes(book), one.mapping)
            for key, state in other.mapping.items():
                slow.sketches[key][0].update(state[0])
                slow.sketches[key][1].update(state[1])
            self.assertEqual(one.joined(other).mapping, rows_told(slow.close()))
            both = {}
            for key, state in one.mapping.items():
                can, res = sets(other.mapping[key])
                both[key] = told((can & set(state[0]), res & set(state[1])))
            self.assertEqual(one.shared(other).mapping, both)
            self.assertTrue(one.shared(other).is_within(one) and other.is_within(one.joined(other)))

    def test_other_tables(self):
        for call in (Table(SEQ).joined, Table(SEQ).shared):
            for wrong in [*all_kinds(), Table(GUS), Table(SEQ).mapping, SEQ, Table(SEQ.with_sketch(0, term("a")))]:
                self.assertIs(type(raised(call, wrong)), InvalidOperation)
        self.assertEqual(Table(SEQ).joined(Table(Book.read(*SEQ.lines))), Table(SEQ))

    def test_is_within(self):
        for wrong in [*all_kinds(), Table(GUS), Table(SEQ).mapping, SEQ, Table(SEQ.with_symbol("h", 0))]:
            self.assertIs(Table(SEQ).is_within(wrong), False)
        self.assertIs(Table(SEQ).is_within(Table(Book.read(*SEQ.lines))), True)


class Errors(unittest.TestCase):
    def test_of(self):
        for wrong in [-1, 3, True, False, None, "0", (0,), [], 10 ** 60]:
            error = raised(Table(SEQ).of, wrong)
            self.assertEqual((type(error), error.number), (InvalidNumber, wrong))

    def test_made_and_fired(self):
        for call in (Table(SEQ).made, Table(SEQ).fired):
            for wrong in ["h", "_", "#", "", None, 0, (), [], {}]:
                error = raised(call, wrong, 5)
                self.assertEqual((type(error), error.asked), (UnknownWord, wrong))
            for wrong in [*all_kinds(), (HOLE,), (HOLE,) * 3, [HOLE, HOLE], HOLE]:
                self.assertIs(type(raised(call, "f", wrong)), InvalidTable)
            for wrong in wrong_states():
                self.assertIs(type(raised(call, "f", (wrong, HOLE))), InvalidTable)
                self.assertIs(type(raised(call, "f", (HOLE, wrong))), InvalidTable)
            self.assertIs(type(raised(call, "a", (HOLE,))), InvalidTable)

    def test_state_and_states(self):
        for call in (Table(SEQ).state, Table(SEQ).states):
            for wrong in all_kinds() + [term("h"), term("f(a)"), term("g(a)"), SEQ]:
                if wrong not in (term("a"), term("_")):
                    self.assertIs(type(raised(call, wrong)), InvalidTerm)

    def test_assuming(self):
        table = Table(SEQ)
        for wrong in [-1, 3, True, False, None, "0", (0,), [], 10 ** 60]:
            error = raised(table.assuming, wrong, 9, 9)
            self.assertEqual((type(error), error.number), (InvalidNumber, wrong))
        for wrong in [-1, 1, True, False, None, "0", (0,), [], 10 ** 60]:
            error = raised(table.assuming, 0, wrong, 9)
            self.assertEqual((type(error), error.spot), (UnknownPlace, wrong))
        for wrong in wrong_states():
            self.assertIs(type(raised(table.assuming, 0, 0, wrong)), InvalidTable)


class Values(unittest.TestCase):
    def test_equality(self):
        for value in all_kinds() + [SEQ, Table(SEQ).mapping, Table(GUS), Table(SEQ.with_sketch(0, term("a")))]:
            self.assertFalse(Table(SEQ) == value)
            self.assertTrue(Table(SEQ) != value)
        book = Book.read("symbols a 0 b 0 g 1", "g(a) => a")
        self.assertEqual(Table(book), Table(Book.read(*book.lines)))
        self.assertNotEqual(Table(book), Table(book, {(0, 0): anything(book)}))
        self.assertNotEqual(Table(Book({"a": 0})), Table(Book({"b": 0})))
        self.assertNotEqual(Table(book), Table(book.with_symbol("c", 0)))

    def test_a_table_shares_nothing(self):
        rows = Table(SEQ).mapping
        table = Table(SEQ, rows)
        rows.clear()
        table.mapping.clear()
        self.assertEqual([len(table), table.mapping, table.is_least()], [3, Table(SEQ).mapping, True])
        self.assertEqual(table.book, SEQ)


if __name__ == "__main__":
    unittest.main()
