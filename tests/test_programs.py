"""[4.1], [4.2], [4.3]: programs, their lines and steps, and the books that they fit."""

import random
import unittest

from firstneed.base import programs
from firstneed.base.books import Book
from firstneed.base.programs import Program, is_scheme
from firstneed.errors import (InvalidBook, InvalidNumber, InvalidProgram, InvalidTerm, ParseError, TooMany,
                              UnknownPlace)
from tests.helper import all_kinds, chain, fits, meet, nodes_of, parts_of, raised, size_of, term_of
from tests.samples import PLUS, SEQ, chance_nodes, chance_term, no_books, term
from tests.slow import filled_trees, nested, trees_upto, with_tree

LISTED = ("from_lines", "full", "strong", "known", "does_fit", "redexes", "step", "is_result", "ground", "with_rule",
          "without", "__getitem__", "__len__", "__iter__", "__eq__", "__str__")
PROPERTIES = ("symbols", "rules", "lines", "overlaps", "is_plain", "doubling")
SYMBOLS = {"a": 0, "b": 0, "f": 2, "g": 1}
A, B, G, F, X, Y = ("a", 0), ("b", 0), ("g", 1), ("f", 2), ("X", 0), ("Y", 0)


def chance_program(chance):
    """A program by chance."""
    while True:
        rules = []
        for _ in range(chance.randint(1, 4)):
            left, names = [], iter("XYZUVW")
            for node in chance_nodes(chance, SYMBOLS, chance.randint(1, 7), 0.5):
                left.append((next(names), 0) if node[0] == "_" else node)
            known = [sign for sign, _ in left if sign.isupper()]
            right = chance_nodes(chance, SYMBOLS, chance.randint(1, 7), 0.6 if known else 0, leaves=known or ("_",))
            if known and chance.random() < 0.2:
                right = ((chance.choice(known), 0),)
            rules.append((tuple(left), right))
        try:
            return Program(SYMBOLS, tuple(rules))
        except InvalidProgram:
            continue


PROGRAMS = [PLUS] + [chance_program(random.Random(seed)) for seed in range(60)]


def opened(tree):
    """The scheme with `_` in the place of its variables."""
    return ("_",) if tree[0].isupper() else (tree[0], *[opened(inner) for inner in tree[1:]])


def bound(tree, left):
    """The parts that stand at the variables of a left side."""
    if left[0].isupper():
        return {left[0]: tree}
    return {name: part for one, other in zip(tree[1:], left[1:]) for name, part in bound(one, other).items()}


def put(right, parts):
    """A right side with parts in the place of its variables."""
    return parts[right[0]] if right[0].isupper() else (right[0], *[put(inner, parts) for inner in right[1:]])


class Interface(unittest.TestCase):
    def test_interface(self):
        self.assertEqual(programs.VARIABLES, "ABCDEFGHIJKLMNOPQRSTUVWXYZ")
        for name in LISTED:
            self.assertIn(name, vars(Program))
        for program in (PLUS, PLUS.without(0)):
            for name in PROPERTIES:
                self.assertTrue(hasattr(program, name))


class Schemes(unittest.TestCase):
    def test_schemes(self):
        for value in [(A,), (X,), (F, X, X), (F, X, A), (G, Y), (("f", 3), X, A, ("Z", 0)), (G,) * 6 + (X,),
                      (G,) * 6 + (A,)]:
            self.assertIs(is_scheme(value), True, value)

    def test_no_schemes(self):
        for value in [(), (("_", 0),), (("#", 0),), (G,), (A, A), (F, A), (F, A, X, Y), (G, ("_", 0)), (("X", 1), A),
                      (("XY", 0),), (("x", 0), A), (("", 0),), (("X", False),), (F, ("f", 0), X),
                      (("f", 4), X, X, X, X),
                      (G,) * 7 + (A,), [A], (["a", 0],), (("X", 0, 0),), (("1", 0),), "X", X, (("f", 1), ("f", 0)),
                      (("X", 10 ** 60),), (("a", True), X), term("a"), *all_kinds()]:
            if value != (("a", 0),) and value != (("f", 1), ("a", 0)):
                self.assertIs(is_scheme(value), False, value)
        self.assertIs(is_scheme((("f", 1), ("a", 0))), True)


class Made(unittest.TestCase):
    def assert_invalid(self, *given):
        self.assertIs(type(raised(Program, *given)), InvalidProgram, given)

    def test_told(self):
        rules = (((F, X, A), (G, X)), ((B,), (A,)))
        program = Program(dict(reversed(SYMBOLS.items())), rules)
        self.assertEqual([program.rules, program.symbols, program.lines, str(program), len(program)],
                         [rules, SYMBOLS, ("f(X, a) => g(X)", "b => a"), "f(X, a) => g(X)\nb => a", 2])
        self.assertEqual(list(program.symbols), ["a", "b", "f", "g"])

    def test_wrong_symbols(self):
        rules = (((A,), (A,)),)
        for value in all_kinds() + [{"g": 1}, {"b": 0}, {"a": 1, "b": 0}, {"a": False}, {**SYMBOLS, "X": 0}]:
            if value != {"a": 0}:
                self.assert_invalid(value, rules)
        self.assertEqual(Program({"a": 0}, rules).rules, rules)

    def test_wrong_rules(self):
        for value in all_kinds():
            self.assert_invalid(SYMBOLS, value)
            self.assert_invalid(SYMBOLS, (value,))
            if value != (A,):
                self.assert_invalid(SYMBOLS, ((value, (A,)),))
                self.assert_invalid(SYMBOLS, (((A,), value),))
        for rules in [((A,), (A,)), [((A,), (A,))], ([(A,), (A,)],), (((A,), (A,), (A,)),), (((A,),),), ()]:
            self.assert_invalid(SYMBOLS, rules)

    def test_sides(self):
        for left, right in [((X,), (A,)), ((F, X, X), (A,)), ((G, X), (Y,)), ((A,), (X,)), ((G, X), (("c", 0),)),
                            ((("c", 0),), (A,)), ((("g", 2), X, Y), (A,)), ((G, X), (("f", 1), X)),
                            ((G,) * 7 + (X,), (A,)), ((G, X), (G,) * 7 + (X,)), ((("_", 0),), (A,)),
                            ((G, X), (("_", 0),)),
                            ((G, ("#", 0)), (A,)), ((G, X), (("#", 0),)), ((F, A, ("_", 0)), (A,))]:
            self.assert_invalid(SYMBOLS, ((left, right),))
        for left, right in [((G,) * 6 + (X,), (X,)), ((G, X), (G,) * 6 + (X,)), ((F, X, Y), (F, X, F, Y, F, X, Y))]:
            self.assertEqual(Program(SYMBOLS, ((left, right),)).rules, ((left, right),))

    def test_patterns_are_different_whatever_the_variables_are_called(self):
        self.assert_invalid(SYMBOLS, (((F, X, A), (A,)), ((F, Y, A), (B,))))
        self.assertEqual(len(Program(SYMBOLS, (((F, X, A), (A,)), ((F, A, Y), (B,))))), 2)

    def test_one_to_six_rules(self):
        rules = tuple(((G,) * at + (A,), (A,)) for at in range(7))
        self.assertEqual(len(Program(SYMBOLS, rules[:6])), 6)
        self.assert_invalid(SYMBOLS, rules)

    def test_ten_parts(self):
        symbols = {"a": 0, "g": 1, "h": 1}
        six, four = (("h", 1), *[G] * 5, A), (G, *[("h", 1)] * 4, X)
        self.assertEqual(len(Program(symbols, ((six, (A,)), (four, (A,))))), 2)
        self.assert_invalid(symbols, ((six, (A,)), ((G, *[("h", 1)] * 5, X), (A,))))

    def test_a_program_shares_nothing(self):
        symbols = dict(SYMBOLS)
        program = Program(symbols, (((A,), (A,)),))
        symbols["c"] = 0
        program.symbols["d"] = 0
        self.assertEqual(program.symbols, SYMBOLS)


class FromLines(unittest.TestCase):
    def test_lines_are_read_again(self):
        for program in PROGRAMS:
            self.assertEqual(Program.from_lines(program.symbols, *program.lines), program)

    def test_wrong_lines(self):
        for line in ["", "a", "a => ", " => a", "a=>a", "a => a => a", "_ => a", "a => _", "f(_) => a", "a => #",
                     "X(a) => a", "XY => a", "f(X,a) => a", "f(X, f) => a", "a => f(f, a)", "f(X, a => a",
                     "f(X, a)) => a", "a) => a", "(a) => a", "a => f(X, a", "a => a)", "a() => a", "f(X, a)  => a",
                     "a => a\n",
                     chain(41) + " => a", "a => " + chain(41), "A1 => a", "abcdefghi => a", "f(a, b, a, b) => a",
                     *all_kinds()]:
            for symbols in (SYMBOLS, {}, None):
                error = raised(Program.from_lines, symbols, "a => a", line, "wrong")
                self.assertEqual((type(error), error.line), (ParseError, 1), line)

    def test_lines_of_no_program(self):
        for line in [chain(40) + " => a", "a => " + chain(40), "c => a", "f(a) => a", "X => a", "f(X, X) => a",
                     "g(X) => Y", "f(X) => f(X, X)"]:
            self.assertIs(type(raised(Program.from_lines, SYMBOLS, line)), InvalidProgram, line)
        self.assertIs(type(raised(Program.from_lines, SYMBOLS)), InvalidProgram)
        for symbols in all_kinds():
            if symbols != {"a": 0}:
                self.assertIs(type(raised(Program.from_lines, symbols, "a => a")), InvalidProgram)


class Overlaps(unittest.TestCase):
    def test_by_the_second_reading(self):
        some = 0
        for program in PROGRAMS:
            lefts = [opened(nested(left)) for left, _ in program]
            found = []
            for rule, left in enumerate(lefts):
                for at, inner in enumerate(parts_of(left)):
                    for other, tree in enumerate(lefts):
                        if inner[0] != "_" and meet(inner, tree) is not None and (at > 0 or rule < other):
                            found.append((rule, at, other))
            self.assertEqual(program.overlaps, tuple(found))
            self.assertIs(program.is_plain, len(found) == 0)
            some += len(found) > 0
        self.assertTrue(5 < some < len(PROGRAMS) - 5)

    def test_where_they_are(self):
        def overlaps(*lines):
            return Program.from_lines(SYMBOLS, *lines).overlaps
        self.assertEqual(overlaps("f(a, X) => a", "f(X, b) => a"), ((0, 0, 1),))
        self.assertEqual(overlaps("g(g(X)) => X"), ((0, 1, 0),))
        self.assertEqual(overlaps("a => b", "f(a, g(X)) => X", "g(b) => a"), ((1, 1, 0), (1, 2, 2)))
        self.assertEqual(overlaps("f(X, Y) => X", "g(X) => X"), ())
        self.assertEqual(overlaps("f(a, X) => X", "f(b, X) => X"), ())

    def test_doubling(self):
        for program in PROGRAMS:
            found = [rule for rule, (_, right) in enumerate(program)
                     if any(sign.isupper() and right.count((sign, 0)) > 1 for sign, _ in right)]
            self.assertEqual(program.doubling, tuple(found))


class Fitting(unittest.TestCase):
    def test_full_strong_and_known(self):
        for program in PROGRAMS:
            full = program.full()
            self.assertEqual(full.symbols, program.symbols)
            self.assertEqual([nested(nodes.nodes) for nodes in full.patterns],
                             [opened(nested(left)) for left, _ in program])
            self.assertEqual([nested(nodes.nodes) for nodes in full.sketches],
                             [opened(nested(right)) for _, right in program])
            self.assertEqual(program.strong(), full.strong())
            self.assertEqual([program.known(0), program.known(7)], [full.strong(), full])
            for depth in range(8):
                book = program.known(depth)
                cut = [self.cut(opened(nested(right)), depth) for _, right in program]
                self.assertEqual([nested(nodes.nodes) for nodes in book.sketches], cut)
                self.assertEqual(book.patterns, full.patterns)
                self.assertTrue(full.knows_more(book) and program.does_fit(book))

    def cut(self, tree, depth):
        return ("_",) if depth == 0 else (tree[0], *[self.cut(inner, depth - 1) for inner in tree[1:]])

    def test_wrong_depths(self):
        for wrong in [-1, 8, 10 ** 60, True, False, None, "1", (1,), [], term("a")]:
            error = raised(PLUS.known, wrong)
            self.assertEqual((type(error), error.number), (InvalidNumber, wrong))

    def test_does_fit_by_all_small_instances(self):
        chance = random.Random(43)
        small = trees_upto(SYMBOLS, 2)
        seen = {True: 0, False: 0}
        for program in PROGRAMS[1:]:
            book, rule = program.full(), chance.randrange(len(program))
            left, right = (nested(side) for side in program[rule])
            for sketch in [book.sketches[rule], chance_term(chance, SYMBOLS, 3), term("_"), term("g(_)")]:
                names = [inner[0] for inner in parts_of(left) if inner[0].isupper()]
                rows = filled_trees(("row", *[("_",)] * len(names)), small) if len(names) < 3 else []
                if rows:
                    told = all(fits(put(right, dict(zip(names, row[1:]))), nested(sketch.nodes)) for row in rows)
                    self.assertIs(program.does_fit(book.with_sketch(rule, sketch)), told)
                    seen[told] += 1
        self.assertTrue(min(seen.values()) > 5)

    def test_a_sketch_that_tells_of_a_variable_does_not_fit(self):
        program = Program.from_lines({"a": 0, "g": 1}, "g(X) => X")
        self.assertEqual([program.does_fit(Book.read("symbols a 0 g 1", f"g(_) => {text}"))
                          for text in ("_", "a", "g(_)")],
                         [True, False, False])

    def test_other_books_do_not_fit(self):
        full = PLUS.full()
        for book in [SEQ, full.without(0), full.with_symbol("h", 1), Book(full.symbols, full.rules[::-1]),
                     full.with_rule(term("s(s(_))"), term("_"))]:
            self.assertIs(PLUS.does_fit(book), False)
        for value in no_books():
            self.assertIs(type(raised(PLUS.does_fit, value)), InvalidBook)


class Steps(unittest.TestCase):
    def test_by_the_second_reading(self):
        chance = random.Random(44)
        for program in PROGRAMS[1:]:
            for _ in range(4):
                one = chance_term(chance, SYMBOLS, 9, leaves=())
                tree = nested(one.nodes)
                lefts = [nested(left) for left, _ in program]
                found = [(place, rule) for place, inner in enumerate(parts_of(tree)) for rule, left in enumerate(lefts)
                         if fits(inner, opened(left))]
                self.assertEqual(program.redexes(one), tuple(found))
                self.assertIs(program.is_result(one), found == [])
                for place, rule in found:
                    parts = bound(parts_of(tree)[place], lefts[rule])
                    behind = with_tree(tree, place, put(nested(program[rule][1]), parts))
                    if size_of(behind) <= 40:
                        self.assertEqual(program.step(one, place, rule), term_of(behind))
                        self.assertEqual(program.step(one, place, rule).nodes, nodes_of(behind))

    def test_forty_nodes_and_no_more(self):
        program = Program.from_lines({"a": 0, "g": 1, "f": 2}, "g(X) => f(X, X)", "a => g(a)")
        self.assertEqual(len(program.step(term("g(" * 20 + "a" + ")" * 20), 1, 0)), 40)
        error = raised(program.step, term("g(" * 20 + "a" + ")" * 20), 0, 0)
        self.assertEqual((type(error), error.limit), (TooMany, 40))
        self.assertEqual(len(program.step(term(chain(39)), 38, 1)), 40)
        error = raised(program.step, term(chain(40)), 39, 1)
        self.assertEqual((type(error), error.limit), (TooMany, 40))

    def test_errors_in_their_order(self):
        one = PLUS.ground("add(s(o), dup(o))")
        for value in all_kinds() + [term("add(o, _)"), term("add(#, o)"), term("s(c)"), term("s(o, o)"), term("_")]:
            for call in (PLUS.redexes, PLUS.is_result):
                self.assertIs(type(raised(call, value)), InvalidTerm)
            self.assertIs(type(raised(PLUS.step, value, 99, 99)), InvalidTerm)
        for wrong in [1, 2, 4, 5, -1, 10 ** 60, True, False, None, "0", (0,), []]:
            error = raised(PLUS.step, one, wrong, 99)
            self.assertEqual((type(error), error.spot), (UnknownPlace, wrong))
        for wrong in [0, 2, 3, -1, 10 ** 60, True, None, "1", (1,), []]:
            error = raised(PLUS.step, one, 0, wrong)
            self.assertEqual((type(error), error.number), (InvalidNumber, wrong))

    def test_ground(self):
        self.assertEqual(PLUS.ground("add(o, s(o))"), term("add(o, s(o))"))
        for text in ["", "add(o,o)", "o o", "X", "s(X)", chain(41), *all_kinds()]:
            if text not in ("a", "f", "_", "#", "f(a)", "abcdefgh"):
                error = raised(PLUS.ground, text)
                self.assertEqual((type(error), error.line), (ParseError, None), text)
        for text in ["_", "#", "s(_)", "s(#)", "a", "s", "s(o, o)", "o(o)", chain(40), "abcdefgh"]:
            self.assertIs(type(raised(PLUS.ground, text)), InvalidTerm)


class Changed(unittest.TestCase):
    def test_with_and_without(self):
        one = Program.from_lines(SYMBOLS, "f(X, a) => X", "b => a")
        two = one.with_rule((G, Y), (F, Y, Y))
        self.assertEqual(two.lines, ("f(X, a) => X", "b => a", "g(Y) => f(Y, Y)"))
        self.assertEqual(one.lines, ("f(X, a) => X", "b => a"))
        self.assertEqual([two.without(2), two.without(0).lines], [one, ("b => a", "g(Y) => f(Y, Y)")])
        for given in [((X,), (A,)), ((F, Y, A), (A,)), ((G, X), (Y,)), (None, (A,)), ((A,), "a"), ("f(X, b)", "a")]:
            self.assertIs(type(raised(one.with_rule, *given)), InvalidProgram)
        for wrong in [-1, 2, True, False, None, "0", (0,), 10 ** 60]:
            error = raised(one.without, wrong)
            self.assertEqual((type(error), error.number), (InvalidNumber, wrong))
        self.assertIs(type(raised(one.without(0).without, 0)), InvalidProgram)

    def test_as_a_row_of_rules(self):
        for program in PROGRAMS:
            self.assertEqual([program[at] for at in range(len(program))], list(program))
            self.assertEqual(tuple(program), program.rules)
            self.assertEqual(str(program), "\n".join(program.lines))
            for wrong in [-1, len(program), True, False, None, "0", (0,), 10 ** 60]:
                error = raised(lambda: program[wrong])
                self.assertEqual((type(error), error.number), (InvalidNumber, wrong))

    def test_equality(self):
        for value in all_kinds() + [PLUS.full(), PLUS.rules, PLUS.lines]:
            self.assertFalse(PLUS == value)
            self.assertTrue(PLUS != value)
        self.assertEqual(PLUS, Program(PLUS.symbols, PLUS.rules))
        self.assertNotEqual(PLUS, Program({**PLUS.symbols, "p": 0}, PLUS.rules))
        self.assertNotEqual(PLUS, Program(PLUS.symbols, PLUS.rules[::-1]))
        renamed = Program.from_lines(PLUS.symbols, "add(o, Y) => Y", *PLUS.lines[1:])
        self.assertNotEqual(PLUS, renamed)


if __name__ == "__main__":
    unittest.main()
