"""[7.1], [7.2]: facts, lines, heights and rounds."""

import random
import unittest
from itertools import product

from firstneed.base.books import Book
from firstneed.errors import InvalidBook, InvalidLines, InvalidNumber, InvalidOperation, InvalidTerm, UnknownPlace
from firstneed.need import lines as module
from firstneed.need.classes import parts_of, result_classes
from firstneed.need.lines import Lines, is_lines, is_shown, round_of, shown
from firstneed.need.tables import Table
from tests.helper import all_kinds, parts_of as trees_in, raised
from tests.samples import LARGE, SEQ, chance_books, chance_term, no_books, term
from tests.slow import States, nested, rules_of

LISTED = ("height_at", "upto", "trimmed", "way", "__getitem__", "__len__", "__iter__", "__contains__", "__eq__",
          "__str__")
PROPERTIES = ("book", "term", "lines", "place", "fact", "height")
BOOKS = chance_books(71, 60)
GROWING = Book.read("symbols a 0 b 0 c 0 f 2", "a => f(b, b)", "b => f(c, c)", "f(f(_, _), _) => c", "f(_, c) => a")

# The lines of the example of the document.
HELD = term("f(g, #)")
ROWS = ((("rule", 2, 0), ("can", 0), None, ()), (("term", 1), ("can", 0), 2, (0,)),
        (("rule", 0, 0), ("res", (0,)), None, ()), (("term", 0), ("res", (0,)), 0, (1, 2)))


def facts_of(book):
    """All facts of a book."""
    return [("can", part) for part in range(len(parts_of(book)))] + [("res", row) for row in result_classes(book)]


def no_facts():
    """Values that are no facts of SEQ."""
    return [*all_kinds(), ("can",), ("can", 2), ("can", -1), ("can", True), ("can", "a"), ("can", (0,)), ("can", 0, 0),
            ["can", 0], ("res", 0), ("res", (2,)), ("res", (0, 1)), ("res", [0]), ("res", (False,)),
            ("res", ()) + ((),),
            ("is", 0), (0, 0), (("can",), 0), ("can", 10 ** 59), ("res", (10 ** 59,)), ("can", None), ("Res", ()),
            (term("a"), 0)]


def places_of(book, one):
    """All places as lines tell them, with their trees and the places of their arguments."""
    found = {}
    for prefix, tree in [(("term",), nested(one.nodes)), *[(("rule", rule), sketch) for rule, (_, sketch)
                                                           in enumerate(rules_of(book))]]:
        for at, inner in enumerate(trees_in(tree)):
            below, next_at = [], at + 1
            for argument in inner[1:]:
                below.append((*prefix, next_at))
                next_at += len(trees_in(argument))
            found[(*prefix, at)] = (inner, below)
    return found


def rounds(book, one):
    """[7.2]: for each place the facts of lines, with the least heights; by rounds."""
    states = States(book, result_classes(book))
    places = places_of(book, one)
    found, height = {place: {} for place in places}, 0
    while True:
        height += 1
        before = {place: [{what for kind, what in facts if kind == "can"},
                          {what for kind, what in facts if kind == "res"}]
                  for place, facts in found.items()}
        states.sketches = {place[1:]: state for place, state in before.items() if place[0] == "rule"}
        came = False
        for place, (tree, below) in places.items():
            can, res = states.made(tree[0], [before[inner] for inner in below])
            for fact in [("can", part) for part in can] + [("res", row) for row in res]:
                if fact not in found[place]:
                    found[place][fact], came = height, True
        if not came:
            return found


class Interface(unittest.TestCase):
    def test_interface(self):
        self.assertEqual([module.MAX_LINES, module.MAX_STEPS], [2000, 200])
        for name in LISTED:
            self.assertIn(name, vars(Lines))
        for name in PROPERTIES:
            self.assertTrue(hasattr(Lines(SEQ, HELD, ROWS), name), name)


class Told(unittest.TestCase):
    def test_the_example(self):
        lines = Lines(SEQ, HELD, ROWS)
        self.assertEqual([lines.book, lines.term, lines.lines], [SEQ, HELD, ROWS])
        self.assertEqual([lines.place, lines.fact, lines.height], [("term", 0), ("res", (0,)), 3])
        self.assertEqual([lines.height_at(at) for at in range(4)], [1, 2, 1, 3])
        self.assertEqual([list(lines), [lines[at] for at in range(4)], len(lines)], [list(ROWS), list(ROWS), 4])
        self.assertEqual(str(lines), "4 lines, height 3")

    def test_pairs_in_it(self):
        lines = Lines(SEQ, HELD, ROWS)
        for row in ROWS:
            self.assertIn(row[:2], lines)
        for value in [*all_kinds(), *ROWS, (("term", 1), ("can", 1)), (("term", True), ("can", 0)),
                      (("term", 0), ("can", 0)),
                      (("term", 1), ("can", False)), (("rule", 2, 0), ("res", (0,))), (("rule", 2, False), ("can", 0)),
                      ROWS[0][0], ROWS[0][1], [("term", 1), ("can", 0)], (("term", 0), ("res", (False,)))]:
            self.assertNotIn(value, lines)

    def test_wrong_indices(self):
        lines = Lines(SEQ, HELD, ROWS)
        for wrong in [-1, 4, True, False, None, "0", (0,), [], 10 ** 60]:
            for call in (lines.height_at, lines.upto, lambda at: lines[at]):
                error = raised(call, wrong)
                self.assertEqual((type(error), error.number), (InvalidNumber, wrong))

    def test_equality(self):
        lines = Lines(SEQ, HELD, ROWS)
        for value in [*all_kinds(), ROWS, SEQ, HELD, Lines(SEQ, HELD, ROWS[:2]), Lines(SEQ, term("f(g, b)"), ROWS),
                      Lines(SEQ.with_symbol("h", 0), HELD, ROWS)]:
            self.assertFalse(lines == value)
            self.assertTrue(lines != value)
        self.assertEqual(lines, Lines(Book.read(*SEQ.lines), term("f(g, #)"), ROWS))

    def test_upto(self):
        lines = Lines(SEQ, HELD, ROWS)
        self.assertEqual(lines.upto(1).lines, ROWS[:2])
        self.assertEqual(lines.upto(2).lines, ROWS[2:3])
        self.assertEqual(lines.upto(3), lines)
        more = (ROWS[2], ROWS[0], ROWS[2], (*ROWS[1][:3], (1,)), (*ROWS[3][:3], (3, 2)), ROWS[0])
        self.assertEqual(Lines(SEQ, HELD, more).upto(4).lines, ROWS[:1] + ROWS[2:3] + ((*ROWS[1][:3], (0,)),
                                                                                     (*ROWS[3][:3], (2, 1))))

    def test_trimmed(self):
        twice = (ROWS[0], ROWS[0], ROWS[2], (*ROWS[1][:3], (0,)), (*ROWS[1][:3], (1,)), ROWS[2], (*ROWS[3][:3], (4, 5)))
        self.assertEqual(Lines(SEQ, HELD, twice).trimmed().lines, (ROWS[0], (*ROWS[1][:3], (0,)), ROWS[2],
                                                                  (*ROWS[3][:3], (1, 2))))
        book = Book.read("symbols a 0 f 2 g 1 h 1", "g(f(a, a)) => a", "h(a) => _")
        rows = ((("term", 2), ("can", 0), None, ()), (("term", 1), ("can", 0), None, ()))
        one = term("f(a, a)")
        self.assertEqual([part.text for part in parts_of(book)], ["a", "f(a, a)"])
        both = (*rows, (("term", 0), ("can", 1), None, (1, 0)))
        self.assertEqual(Lines(book, one, both).trimmed().lines, both)
        # Lines that use equal lines become equal themselves.
        tall = ((("rule", 0, 0), ("can", 0), None, ()), (("rule", 0, 0), ("can", 0), None, ()),
                (("term", 0), ("can", 0), 0, (1,)), (("term", 0), ("can", 0), 0, (0,)))
        loop = Book.read("symbols a 0 b 0 g 1", "b => a", "g(a) => a")
        self.assertEqual([Lines(loop, term("b"), tall).trimmed().lines,
                          Lines(loop, term("b"), tall[:3]).trimmed().lines],
                         [(tall[0], tall[3]), (tall[0], tall[3])])

    def test_trimmed_lines_show_the_same(self):
        chance = random.Random(72)
        for book in BOOKS:
            one = chance_term(chance, book.symbols, 6, leaves=("_", "#"))
            rows, wanted = (), None
            for fact in facts_of(book):
                if round_of(book, one, 0, fact) is not None:
                    further = shown(book, one, 0, fact).lines
                    for _ in range(2):
                        rows += tuple((*row[:3], tuple(use + len(rows) for use in row[3])) for row in further)
                    wanted = fact
            if wanted is not None:
                lines = Lines(book, one, rows)
                trimmed = lines.trimmed()
                self.assertEqual([trimmed.place, trimmed.fact, trimmed.height], [("term", 0), wanted, lines.height])
                self.assertEqual(len(set(trimmed.lines)), len(trimmed))
                self.assertEqual(trimmed.trimmed(), trimmed)
                self.assertEqual(trimmed.upto(len(trimmed) - 1), trimmed)


class Right(unittest.TestCase):
    def test_all_candidates_of_small_books(self):
        book = Book.read("symbols a 0 b 0 f 2", "f(a, _) => f(_, b)", "b => a", "f(f(_, a), b) => _")
        self.compare(book, term("f(_, f(b, #))"), [("term", 1), ("rule", 0, 1), ("rule", 2, 0), ("rule", 1, 0)])
        book = Book.read("symbols a 0 b 0 f 2", "f(a, _) => b", "f(b, b) => a")
        self.compare(book, term("f(_, _)"), [("term", 2), ("term", 1)])

    def compare(self, book, one, ahead):
        """Judges each line behind some lines by a second reading of [7.2]."""
        known = self.lines_ahead(book, one, ahead)
        self.assertTrue(5 <= len(known) and is_lines(book, one, known))
        places = places_of(book, one)
        uses = [(), *[(use,) for use in range(len(known))], *product(range(len(known)), repeat=2)]
        right = 0
        for place, fact, rule in product(places, facts_of(book), [None, *range(len(book))]):
            for used in uses:
                told = self.follows(book, places, place, fact, rule, [known[use][:2] for use in used])
                self.assertIs(is_lines(book, one, (*known, (place, fact, rule, used))), told, (place, fact, rule, used))
                right += told
        self.assertTrue(right > 0)

    def lines_ahead(self, book, one, ahead):
        rows = []
        for place in ahead:
            for fact in facts_of(book):
                row = (place, fact, None, ())
                if is_lines(book, one, (row,)):
                    rows.append(row)
        return tuple(rows)

    def follows(self, book, places, place, fact, rule, used):
        tree, below = places[place]
        if tree[0] == "_":
            return rule is None and used == []
        if tree[0] == "#":
            return False
        states = States(book, result_classes(book))
        if rule is None and fact[0] == "res":
            if [at for at, _ in used] != below or any(kind != "res" for _, (kind, _) in used):
                return False
            inner = [(set(row), set()) for _, (_, row) in used]
            if any(states.fits(tree[0], pattern, inner) for pattern, _ in states.rules):
                return False
            return fact[1] == tuple(at for at, part in enumerate(states.parts) if states.fits(tree[0], part, inner))
        asked = states.parts[fact[1]] if rule is None else states.rules[rule][0]
        if asked[0] != tree[0]:
            return False
        wanted = [(at, ("can", states.parts.index(part))) for at, part in zip(below, asked[1:]) if part != ("_",)]
        return used == wanted + ([] if rule is None else [(("rule", rule, 0), fact)])

    def test_leaves(self):
        for fact in facts_of(SEQ):
            self.assertIs(is_lines(SEQ, term("_"), ((("term", 0), fact, None, ()),)), True)
            self.assertIs(is_lines(SEQ, term("#"), ((("term", 0), fact, None, ()),)), False)
            self.assertIs(is_lines(SEQ, term("_"), ((("term", 0), fact, 0, ()),)), False)
        twice = ((("term", 0), ("can", 0), None, ()), (("term", 0), ("can", 1), None, (0,)))
        self.assertIs(is_lines(SEQ, term("_"), twice), False)


class Wrong(unittest.TestCase):
    def test_no_lines(self):
        last = ROWS[3]
        for value in [*all_kinds(), list(ROWS), ROWS[0], ROWS[1:], ROWS[::-1], (*ROWS, last[:3]), (*ROWS, (*last, ())),
                      (*ROWS, list(last)), (*ROWS, (*last[:3], [1, 2])), (*ROWS[:3], (*last[:3], (2, 1))),
                      (*ROWS[:3], (*last[:3], (1,))), (*ROWS[:3], (*last[:3], (1, 2, 2))),
                      (*ROWS[:3], (*last[:3], (1, 3))),
                      (*ROWS[:3], (*last[:3], (1, -1))), (*ROWS[:3], (*last[:3], (True, 2))), ROWS[:3] + (last[1:],),
                      (*ROWS[:3], (last[0], ("res", (1,)), *last[2:])), (*ROWS[:3], (last[0], last[1], 1, (1, 2))),
                      (*ROWS[:3], (last[0], last[1], False, (1, 2))), (*ROWS[:3], (last[0], last[1], None, (1, 2))),
                      (*ROWS[:3], (("term", 1), *last[1:])), (None, *ROWS), (*ROWS, None), (*ROWS, "line")]:
            self.assertIs(is_lines(SEQ, HELD, value), False, value)
            self.assertIs(type(raised(Lines, SEQ, HELD, value)), InvalidLines)

    def test_wrong_places(self):
        book, one = Book.read("symbols a 0 b 0 g 1", "b => a", "g(a) => g(b)"), term("g(_)")
        self.assertIs(is_lines(book, one, ((("term", 1), ("can", 0), None, ()),)), True)
        for wrong in [*all_kinds(), ("term", True), ("term", 2), ("term", -1), ["term", 1], ("term",), ("term", 0, 1),
                      "term",
                      ("rule", 2, 0), ("rule", 0, 1), ("rule", True, 0), ("rule", 0), ("Term", 1), (1, 1),
                      (("term",), 1),
                      ("term", 10 ** 60), ("term", (1,)), (term("a"), 1), ("rule", 0, False), ("rule", -1, 0)]:
            self.assertIs(is_lines(book, one, ((wrong, ("can", 0), None, ()),)), False, wrong)

    def test_wrong_facts(self):
        for wrong in no_facts():
            self.assertIs(is_lines(SEQ, term("_"), ((("term", 0), wrong, None, ()),)), False, wrong)

    def test_wrong_rules(self):
        for wrong in [*all_kinds(), -1, 3, True, "0", (0,), 10 ** 60]:
            if wrong not in (2, None) or wrong is True:
                self.assertIs(is_lines(SEQ, HELD, (ROWS[0], (("term", 1), ("can", 0), wrong, (0,)))), False, wrong)

    def test_one_to_two_thousand_lines(self):
        row = (("term", 0), ("can", 0), None, ())
        self.assertIs(is_lines(SEQ, term("_"), (row,) * 2000), True)
        self.assertEqual(len(Lines(SEQ, term("_"), (row,) * 2000)), 2000)
        self.assertIs(is_lines(SEQ, term("_"), (row,) * 2001), False)
        self.assertIs(type(raised(Lines, SEQ, term("_"), (row,) * 2001)), InvalidLines)
        self.assertIs(is_lines(SEQ, term("_"), ()), False)

    def test_errors_in_their_order(self):
        for value in no_books():
            for call in (lambda: is_lines(value, 5, 5), lambda: Lines(value, 5, 5), lambda: shown(value, 5, 5, 5),
                         lambda: is_shown(value, 5, 5, 5, 5), lambda: round_of(value, 5, 5, 5)):
                self.assertIs(type(raised(call)), InvalidBook)
        for value in all_kinds() + [term("h"), term("f(a)"), SEQ, ROWS]:
            if value not in (term("a"), term("_")):
                for call in (lambda: is_lines(SEQ, value, 5), lambda: Lines(SEQ, value, 5),
                             lambda: shown(SEQ, value, 5, 5),
                             lambda: is_shown(SEQ, value, 5, 5, 5), lambda: round_of(SEQ, value, 5, 5)):
                    self.assertIs(type(raised(call)), InvalidTerm)
        for wrong in [-1, 3, True, False, None, "0", (0,), [], 10 ** 60]:
            for call in (lambda: shown(SEQ, HELD, wrong, 5), lambda: is_shown(SEQ, HELD, wrong, 5, 5),
                         lambda: round_of(SEQ, HELD, wrong, 5)):
                error = raised(call)
                self.assertEqual((type(error), error.spot), (UnknownPlace, wrong))
        for wrong in no_facts():
            for call in (lambda: shown(SEQ, HELD, 0, wrong), lambda: is_shown(SEQ, HELD, 0, wrong, 5),
                         lambda: round_of(SEQ, HELD, 0, wrong)):
                self.assertIs(type(raised(call)), InvalidOperation)


class Shown(unittest.TestCase):
    def test_by_rounds(self):
        chance = random.Random(73)
        heights = set()
        for book in [*BOOKS, GROWING, LARGE]:
            for leaves in [("_", "#"), ()]:
                one = chance_term(chance, book.symbols, chance.choice([3, 8, 20]), leaves=leaves)
                known = rounds(book, one)
                states = Table(book).states(one)
                for at in {0, chance.randrange(len(one))}:
                    for fact in facts_of(book):
                        height = known[("term", at)].get(fact)
                        self.assertEqual(round_of(book, one, at, fact), height)
                        self.assertIs(height is not None, fact[1] in states[at][0 if fact[0] == "can" else 1])
                        self.check(book, one, at, fact, height)
                        heights.add(height)
        self.assertTrue({None, 1, 2, 3, 4, 5, 6} <= heights)

    def check(self, book, one, at, fact, height):
        if height is None:
            self.assertIs(type(raised(shown, book, one, at, fact)), InvalidOperation)
            return
        lines = shown(book, one, at, fact)
        self.assertIsInstance(lines, Lines)
        self.assertEqual([lines.book, lines.term, lines.place, lines.fact, lines.height],
                         [book, one, ("term", at), fact, height])
        self.assertIs(is_shown(book, one, at, fact, lines.lines), True)
        self.assertEqual(lines.trimmed(), lines)
        for other in facts_of(book):
            self.assertIs(is_shown(book, one, at, other, lines.lines), other == fact)
        for other in range(len(one)):
            self.assertIs(is_shown(book, one, other, fact, lines.lines), other == at)

    def test_is_shown(self):
        fact = ("res", (0,))
        self.assertIs(is_shown(SEQ, HELD, 0, fact, ROWS), True)
        longer = (ROWS[0], ROWS[0], ROWS[2], *[(*row[:3], uses) for row, uses in [(ROWS[1], (1,)), (ROWS[3], (3, 2))]])
        self.assertIs(is_shown(SEQ, HELD, 0, fact, longer), True)
        for value in [*all_kinds(), Lines(SEQ, HELD, ROWS), list(ROWS), ROWS[:3], ROWS[1:], (*ROWS, ROWS[0])]:
            self.assertIs(is_shown(SEQ, HELD, 0, fact, value), False)

    def test_rounds_grow(self):
        texts = ("c", "f(a, #)", "a", "f(#, a)", "b", "f(#, b)", "#", "f(#, #)")
        self.assertEqual([round_of(GROWING, term(text), 0, ("res", (0,))) for text in texts],
                         [1, 3, 4, 5, 6, 7, None, None])


if __name__ == "__main__":
    unittest.main()
