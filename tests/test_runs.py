"""[0.21], [13.1], [13.2]: runs, steps and results of programs."""

import random
import unittest

from firstneed.base.books import Book
from firstneed.base.programs import Program
from firstneed.base.terms import Term
from firstneed.errors import InvalidBook, InvalidNumber, InvalidOperation, InvalidProgram, InvalidTerm, TooMany
from firstneed.need.places import needed_places
from firstneed.use import runs as module
from firstneed.use.runs import Run, fewest_steps, is_run, next_terms
from firstneed.whole.led import Led
from tests.helper import all_kinds, chain, raised
from tests.samples import GUS, PLUS, SEQ, chance_nodes, chance_term, no_books, term
from tests.test_known import CHANCE, DEEP, OPEN, SHUT, no_programs

LISTED = ("__getitem__", "__len__", "__iter__", "__eq__", "__str__")
PROPERTIES = ("program", "strategy", "book", "terms", "taken", "rules", "end", "result")
WORDS = ("inner", "needed", "outer")
# Right sides grow, so that runs become large.
GROW = Program.from_lines({"a": 0, "b": 0, "f": 2, "g": 1}, "g(X) => f(g(X), g(X))", "f(a, X) => X")
# Numbers below s, with what is never asked for, and with a loop.
LAZY = Program.from_lines({"o": 0, "s": 1, "p": 2, "loop": 0, "two": 1}, "loop => loop", "p(o, X) => X",
                          "p(s(X), Y) => p(X, s(Y))", "two(X) => p(X, o)")
FREE = Program.from_lines({"a": 0, "b": 0, "k": 3, "l": 1, "loop": 0}, "k(X, Y, a) => Y", "k(X, Y, b) => X",
                          "l(X) => b",
                          "loop => loop")
FLAT = Program.from_lines({"a": 0, "b": 0, "f": 3}, "a => b", "f(b, X, Y) => X")
PROGRAMS = [PLUS, LAZY, FREE, FLAT, GROW, SHUT, DEEP, OPEN]
NO_BOUNDS = [None, True, False, -1, 201, 10 ** 59, 10 ** 60, "5", (), [], (5,), {}, term("a")]


def chance_plain(seed, many):
    """Plain programs by chance."""
    chance, found = random.Random(seed), []
    while len(found) < many:
        symbols = {"a": 0, "b": 0, "f": 2, "g": 1, "k": 1}
        lines = {}
        for word in "fgk":
            for _ in range(chance.randint(0, 2)):
                inner = []
                for _ in range(symbols[word]):
                    inner.append(chance.choice(["_", "_", "a", "b", "g(_)"]))
                left = f"{word}(" + ", ".join(inner) + ")"
                lines[left] = chance_nodes(chance, symbols, chance.randint(1, 4), 0.5)
        rules = []
        for left, nodes in list(lines.items())[:4]:
            names = "XYZ"[:left.count("_")]
            for name in names:
                left = left.replace("_", name, 1)
            right = "".join([chance.choice(names or "a") if letter == "_" else letter for letter in Term(nodes).text])
            rules.append(f"{left} => {right}")
        if rules:
            program = Program.from_lines(symbols, *rules)
            if program.is_plain:
                found.append(program)
    return found


PLAIN = [PLUS, LAZY, FREE, FLAT, GROW] + chance_plain(141, 40)


def chance_ground(chance, program, size):
    """A ground term by chance; of GROW one that becomes large."""
    if program == GROW:
        many = chance.randint(4, 18)
        return GROW.ground("g(" + "f(b, " * many + chance.choice(["a", "g(a)"]) + ")" * (many + 1))
    return chance_term(chance, program.symbols, size, leaves=())


def slow_run(program, one, strategy, book, bound):
    """[13.1] by the words of the document and what programs and books tell."""
    terms, taken, rules = [one], [], []
    while True:
        one = terms[-1]
        redexes = program.redexes(one)
        if not redexes:
            return terms, taken, rules, "result"
        places = sorted({place for place, _ in redexes})
        if strategy == "inner":
            places = [place for place in places if not any(place in one.above(other) and place != other
                                                           for other in places)]
        if strategy == "needed":
            places = [place for place in places if place in needed_places(book, one)]
        if not places:
            return terms, taken, rules, "stuck"
        if len(taken) == bound:
            return terms, taken, rules, "cut"
        rule = min(number for place, number in redexes if place == places[0])
        try:
            terms.append(program.step(one, places[0], rule))
        except TooMany:
            return terms, taken, rules, "large"
        taken.append(places[0])
        rules.append(rule)


def slow_steps(program, one):
    """The triples of all steps to at most forty nodes."""
    found = []
    for place, rule in program.redexes(one):
        try:
            found.append((place, rule, program.step(one, place, rule)))
        except TooMany:
            pass
    return tuple(found)


def slow_fewest(program, one, most):
    """The least number of steps to a result, or None, and the number of the terms up to the most."""
    level, met, count = [one], {one.text}, None
    for number in range(most + 1):
        if count is None and any(program.is_result(other) for other in level):
            count = number
        if len(met) > 2000 or number == most:
            return count, len(met)
        further = {other.text: other for inner in level for _, _, other in slow_steps(program, inner)}
        level = [further[text] for text in further if text not in met]
        met |= set(further)
    return count, len(met)


class Runs(unittest.TestCase):
    def check_run(self, program, one, strategy, book, bound):
        run = Run(program, one, strategy, knowing=book, bound=bound)
        whole = program.full() if book is None else book
        terms, taken, rules, end = slow_run(program, one, strategy, whole, bound)
        self.assertEqual([run.terms, run.taken, run.rules, run.end],
                         [tuple(terms), tuple(taken), tuple(rules), end])
        self.assertEqual([run.program, run.strategy, run.book], [program, strategy, whole])
        self.assertEqual(run.result, terms[-1] if end == "result" else None)
        self.assertEqual([len(run), str(run), list(run)], [len(taken), f"{len(taken)} steps, {end}", terms])
        self.assertEqual([run[at] for at in range(len(terms))], terms)
        self.assertIs(is_run(program, (run.terms, run.taken)), True)
        return end

    def test_by_a_second_reading(self):
        chance, seen = random.Random(142), {}
        for program in (PROGRAMS + CHANCE + PLAIN + [OPEN, GROW] * 6) * 2:
            for strategy in WORDS:
                one = chance_ground(chance, program, chance.choice([5, 12, 30]))
                bound = chance.choice([0, 1, 3, 8, 25])
                book = chance.choice([None, program.full(), program.strong(), program.known(1)])
                end = self.check_run(program, one, strategy, book, bound)
                seen[(strategy, end)] = seen.get((strategy, end), 0) + 1
        for strategy in WORDS:
            for end in ("result", "cut", "large"):
                self.assertTrue(seen.get((strategy, end), 0) > 2, seen)
        self.assertTrue(seen[("needed", "stuck")] > 0, seen)
        self.assertNotIn(("outer", "stuck"), seen)
        self.assertNotIn(("inner", "stuck"), seen)

    def test_each_strategy(self):
        one = PLUS.ground("add(s(o), dup(o))")
        for strategy, taken in [("needed", (0, 1, 1, 1)), ("outer", (0, 1, 1, 1)), ("inner", (3, 3, 0, 1))]:
            self.assertEqual(Run(PLUS, one, strategy).taken, taken)
        inner = PLUS.ground("add(dup(o), add(o, dup(o)))")
        self.assertEqual([Run(PLUS, inner, word, bound=1).taken for word in WORDS], [(1,), (1,), (1,)])
        self.assertEqual([Run(FREE, FREE.ground("k(l(a), loop, l(loop))"), word, bound=4).taken for word in WORDS],
                         [(1, 2, 2, 2), (4, 0, 0), (1, 2, 2, 2)])
        self.assertEqual([Run(FREE, FREE.ground("l(l(loop))"), word, bound=4).taken for word in WORDS],
                         [(2, 2, 2, 2), (0,), (0,)])

    def test_the_first_rule_that_fits(self):
        both = Program.from_lines({"a": 0, "b": 0, "g": 1}, "g(X) => X", "g(a) => b")
        turned = Program.from_lines({"a": 0, "b": 0, "g": 1}, "g(a) => b", "g(X) => X")
        self.assertEqual([Run(both, both.ground("g(a)"), word).rules for word in WORDS], [(0,)] * 3)
        self.assertEqual([Run(turned, turned.ground("g(a)"), word).rules for word in WORDS], [(0,)] * 3)
        self.assertEqual([Run(both, both.ground("g(a)")).result.text, Run(turned, turned.ground("g(a)")).result.text],
                         ["a", "b"])
        # Two rules at one place: the place below goes first, whichever rules fit above it.
        self.assertEqual(Run(both, both.ground("g(g(a))"), "inner").taken, (1, 0))

    def test_each_end(self):
        one = PLUS.ground("add(s(o), dup(o))")
        self.assertEqual([str(Run(PLUS, one, bound=bound)) for bound in (0, 1, 3, 4, 200)],
                         ["0 steps, cut", "1 steps, cut", "3 steps, cut", "4 steps, result", "4 steps, result"])
        self.assertEqual([str(Run(PLUS, PLUS.ground("s(o)"), word, bound=0)) for word in WORDS],
                         ["0 steps, result"] * 3)
        stuck = OPEN.ground("f(k(a), k(a), k(a))")
        self.assertEqual([str(Run(OPEN, stuck, bound=bound)) for bound in (0, 9)], ["0 steps, stuck"] * 2)
        self.assertEqual(Run(OPEN, stuck, "outer", bound=0).end, "cut")
        self.assertEqual([Run(OPEN, stuck).result, Run(OPEN, stuck, bound=0).terms], [None, (stuck,)])

    def test_large_and_cut(self):
        one = GROW.ground("g(" + "f(b, " * 6 + "b" + ")" * 6 + ")")
        run = Run(GROW, one)
        self.assertEqual([run.end, run.result], ["large", None])
        steps = len(run)
        self.assertEqual([Run(GROW, one, bound=bound).end for bound in (steps, steps + 1, steps - 1)],
                         ["cut", "large", "cut"])
        wide = GROW.ground("g(" + "f(b, " * 19 + "b" + ")" * 19 + ")")
        self.assertEqual([len(wide), Run(GROW, wide, bound=0).end, Run(GROW, wide, bound=1).end], [40, "cut", "large"])

    def test_forty_nodes_are_not_large(self):
        double = Program.from_lines({"a": 0, "f": 2, "g": 1, "h": 1}, "h(X) => f(X, X)")
        for size, end in [(19, "result"), (20, "large")]:
            one = double.ground("h(" + chain(size) + ")")
            self.assertEqual(Run(double, one, bound=5).end, end)
        self.assertEqual(len(Run(double, double.ground("h(" + chain(19) + ")")).result), 39)
        more = Program.from_lines({"a": 0, "f": 3, "g": 1, "h": 1}, "h(X) => f(a, X, X)")
        self.assertEqual(len(Run(more, more.ground("h(" + chain(19) + ")")).result), 40)

    def test_a_book_that_knows_less(self):
        one = SHUT.ground("f(k(a), k(a), k(a))")
        self.assertEqual([str(Run(SHUT, one)), str(Run(SHUT, one, knowing=SHUT.strong()))],
                         ["3 steps, result", "0 steps, stuck"])
        self.assertEqual(Run(SHUT, one, knowing=SHUT.strong()).book, SHUT.strong())
        self.assertEqual(Run(SHUT, one, "outer", knowing=SHUT.strong()).end, "result")
        # A sketch that becomes the right side with some terms in the place of variables, whatever these are.
        self.assertEqual(Run(DEEP, DEEP.ground("k(a)"), knowing=DEEP.known(1)).taken,
                         Run(DEEP, DEEP.ground("k(a)")).taken)

    def test_the_bound(self):
        loop = LAZY.ground("loop")
        self.assertEqual([len(Run(LAZY, loop)), len(Run(LAZY, loop, bound=200)), len(Run(LAZY, loop, bound=0))],
                         [50, 200, 0])
        self.assertEqual(Run(LAZY, loop, bound=200).end, "cut")
        for wrong in NO_BOUNDS:
            error = raised(lambda: Run(LAZY, loop, bound=wrong))
            self.assertEqual((type(error), error.number), (InvalidNumber, wrong))

    def test_items(self):
        run = Run(PLUS, PLUS.ground("add(s(o), dup(o))"))
        self.assertEqual([run[0], run[4], len(run), tuple(run)], [run.terms[0], run.result, 4, run.terms])
        for wrong in [5, -1, True, None, "0", (0,), [], 10 ** 60, slice(0, 1)]:
            error = raised(lambda: run[wrong])
            self.assertEqual((type(error), error.number), (InvalidNumber, wrong))

    def test_equality(self):
        one = PLUS.ground("add(s(o), dup(o))")
        run = Run(PLUS, one)
        same = [Run(Program.from_lines(PLUS.symbols, *PLUS.lines), one), Run(PLUS, one, bound=4),
                Run(PLUS, one, bound=200),
                Run(PLUS, one, knowing=PLUS.full())]
        for other in same:
            self.assertTrue(run == other)
            self.assertFalse(run != other)
        for value in [*all_kinds(), PLUS, run.terms, Run(PLUS, one, "outer"), Run(PLUS, one, bound=3),
                      Run(PLUS, one, knowing=PLUS.strong()), Run(PLUS, PLUS.ground("o")),
                      Run(PLUS.without(2), one), Run(LAZY, LAZY.ground("o"))]:
            self.assertFalse(run == value)
            self.assertTrue(run != value)
        # Equal books, but other programs.
        first, last = (Program.from_lines({"a": 0, "f": 2}, f"f(X, Y) => {name}") for name in "XY")
        self.assertEqual([first.full(), first == last, Run(first, term("a")) == Run(last, term("a"))],
                         [last.full(), False, False])

    def test_errors_in_their_order(self):
        for value in no_programs():
            self.assertIs(type(raised(lambda: Run(value, 5, 5, knowing=5, bound=-1))), InvalidProgram)
        for value in [one for one in all_kinds() if one != term("a")] + [term("a"), term("s(_)"), term("add(o, #)")]:
            self.assertIs(type(raised(lambda: Run(PLUS, value, 5, knowing=5, bound=-1))), InvalidTerm)
        one = PLUS.ground("dup(o)")
        for wrong in [*all_kinds(), "Needed", "needed ", "inn", WORDS, ("outer",)]:
            self.assertIs(type(raised(lambda: Run(PLUS, one, wrong, knowing=5, bound=-1))), InvalidOperation)
        for wrong in [*[book for book in no_books() if book is not None], SEQ, GUS, PLUS.full().without(0),
                      PLUS.full().with_symbol("h", 0), PLUS.full().with_sketch(0, term("o")),
                      Book(PLUS.symbols, PLUS.full().rules[::-1])]:
            for word in WORDS:
                self.assertIs(type(raised(lambda: Run(PLUS, one, word, knowing=wrong, bound=-1))), InvalidBook)

    def test_interface(self):
        self.assertEqual([module.STRATEGIES, module.MAX_STEPS], [WORDS, 200])
        for name in LISTED:
            self.assertIn(name, vars(Run))
        for name in PROPERTIES:
            self.assertTrue(hasattr(Run(PLUS, PLUS.ground("o")), name))


class Statements(unittest.TestCase):
    def test_all_orders_come_to_one_result(self):
        chance, some = random.Random(143), 0
        for program in PLAIN * 8:
            one = chance_term(chance, program.symbols, 9, leaves=())
            results, level, met = set(), [one], {one.text}
            for _ in range(6):
                results |= {other.text for other in level if program.is_result(other)}
                further = {other.text: other for inner in level for _, _, other in slow_steps(program, inner)}
                level = [further[text] for text in further if text not in met][:80]
                met |= set(further)
            self.assertLessEqual(len(results), 1)
            if results:
                run = Run(program, one, bound=200)
                self.assertIn(run.end, ("result", "stuck", "large"))
                if run.end == "result":
                    self.assertEqual({run.result.text}, results)
                    some += len(run) > 1
        self.assertTrue(some > 15, some)

    def test_led_books_are_never_stuck(self):
        chance, led = random.Random(144), 0
        for program in PLAIN:
            for book in (program.full(), program.strong(), program.known(1)):
                for _ in range(3):
                    one = chance_term(chance, program.symbols, 12, leaves=())
                    if Led(book).is_led:
                        self.assertNotEqual(Run(program, one, knowing=book).end, "stuck")
                        led += 1
        self.assertTrue(led > 50)

    def test_no_order_takes_fewer_steps(self):
        chance, some = random.Random(145), 0
        for program in PLAIN * 20:
            if program.doubling:
                continue
            one = chance_term(chance, program.symbols, 12, leaves=())
            run = Run(program, one)
            if run.end == "result" and len(run) <= 8:
                fewest, many = slow_fewest(program, one, len(run))
                if many <= 2000:
                    self.assertEqual(fewest, len(run))
                    some += len(run) > 2
        self.assertTrue(some > 5, some)

    def test_a_rule_that_doubles_can_take_more(self):
        one = PLUS.ground("dup(add(o, add(o, o)))")
        self.assertEqual([len(Run(PLUS, one)), fewest_steps(PLUS, one)], [6, 4])

    def test_needed_runs_come_to_results_where_others_do_not(self):
        one = FREE.ground("k(l(a), loop, l(loop))")
        self.assertEqual([Run(FREE, one, word).end for word in WORDS], ["cut", "result", "cut"])
        self.assertEqual(Run(FREE, one).result, term("b"))


class Next(unittest.TestCase):
    def test_by_a_second_reading(self):
        chance, some = random.Random(146), 0
        for program in PROGRAMS + CHANCE + PLAIN + [GROW] * 20:
            one = chance_ground(chance, program, chance.choice([6, 20, 40]))
            found = next_terms(program, one)
            self.assertEqual(found, slow_steps(program, one))
            self.assertEqual(list(found), sorted(found, key=lambda step: step[:2]))
            some += len(found) < len(program.redexes(one))
        self.assertTrue(some > 3, some)

    def test_examples(self):
        self.assertEqual(next_terms(PLUS, PLUS.ground("add(s(o), dup(o))")),
                         ((0, 1, term("s(add(o, dup(o)))")), (3, 2, term("add(s(o), add(o, o))"))))
        both = Program.from_lines({"a": 0, "b": 0, "g": 1}, "g(X) => X", "g(a) => b")
        self.assertEqual(next_terms(both, term("g(g(a))")),
                         ((0, 0, term("g(a)")), (1, 0, term("g(a)")), (1, 1, term("g(b)"))))
        self.assertEqual(next_terms(PLUS, term("o")), ())

    def test_no_more_than_forty_nodes(self):
        double = Program.from_lines({"a": 0, "f": 2, "g": 1, "h": 1}, "h(X) => f(X, X)", "g(g(a)) => a")
        one = double.ground("h(" + chain(20) + ")")
        self.assertEqual([place for place, _, _ in next_terms(double, one)], [18])
        three = Program.from_lines({"a": 0, "f": 3, "g": 1, "h": 1}, "h(X) => f(X, X, X)")
        self.assertEqual([len(step[2]) for step in next_terms(three, three.ground("h(" + chain(13) + ")"))], [40])

    def test_errors(self):
        for value in no_programs():
            self.assertIs(type(raised(next_terms, value, 5)), InvalidProgram)
            self.assertIs(type(raised(fewest_steps, value, 5, -1)), InvalidProgram)
        for value in [*all_kinds(), term("add(o, _)"), term("s(#)"), term("h")]:
            self.assertIs(type(raised(next_terms, PLUS, value)), InvalidTerm)
            self.assertIs(type(raised(fewest_steps, PLUS, value, -1)), InvalidTerm)


class Fewest(unittest.TestCase):
    def test_by_a_second_reading(self):
        chance, seen = random.Random(147), {}
        for program in PROGRAMS + CHANCE + PLAIN * 2:
            for _ in range(3):
                one = chance_term(chance, program.symbols, chance.choice([6, 10, 14]), leaves=())
                most = chance.randint(0, 5)
                count, many = slow_fewest(program, one, most)
                if many <= 2000:
                    self.assertEqual(fewest_steps(program, one, most), count)
                    seen[count] = seen.get(count, 0) + 1
        self.assertTrue(seen[None] > 3 and seen[0] > 3 and max(key for key in seen if key) > 2, seen)

    def test_results_and_bounds(self):
        one = PLUS.ground("add(s(o), dup(o))")
        self.assertEqual([fewest_steps(PLUS, one), fewest_steps(PLUS, one, 4), fewest_steps(PLUS, one, 3),
                          fewest_steps(PLUS, one, 10), fewest_steps(PLUS, one, 0)], [4, 4, None, 4, None])
        self.assertEqual([fewest_steps(PLUS, term("s(o)"), most) for most in (0, 6, 10)], [0, 0, 0])
        self.assertEqual([fewest_steps(LAZY, term("loop"), most) for most in (0, 10)], [None, None])
        self.assertEqual(fewest_steps(PLUS, one, most=4), 4)
        # Without a bound it is six steps.
        longer = [Program.ground(PLUS, "add(o, " * many + "o" + ")" * many) for many in (6, 7)]
        self.assertEqual([fewest_steps(PLUS, longer[0]), fewest_steps(PLUS, longer[1])], [6, None])
        for wrong in [None, True, False, -1, 11, 10 ** 59, 10 ** 60, "5", (), [], {}, term("a")]:
            error = raised(fewest_steps, PLUS, one, wrong)
            self.assertEqual((type(error), error.number), (InvalidNumber, wrong))

    def test_not_by_way_of_large_terms(self):
        # The shortest way leads over forty nodes.
        double = Program.from_lines({"a": 0, "b": 0, "f": 2, "g": 1, "h": 1, "k": 1}, "k(X) => h(X)", "h(X) => f(X, X)",
                                    "f(X, Y) => b", "g(g(X)) => g(X)")
        one = double.ground("h(" + chain(20) + ")")
        self.assertEqual(fewest_steps(double, one), 3)
        self.assertEqual(fewest_steps(double, double.ground("h(" + chain(18) + ")")), 2)

    def test_too_many_terms(self):
        # Each `two` can be worked out or not: of n there are 2 ** n terms, all of them up to n steps.
        choose = Program.from_lines({"a": 0, "b": 0, "f": 2, "g": 0, "loop": 0}, "g => a", "loop => loop")
        for many, limit in [(10, False), (11, True)]:
            text = "g"
            for _ in range(many - 1):
                text = f"f(g, {text})"
            one = choose.ground(f"f(loop, {text})")
            self.assertEqual(slow_fewest(choose, one, 10)[0], None)
            if not limit:
                self.assertIs(fewest_steps(choose, one, 10), None)
            else:
                error = raised(fewest_steps, choose, one, 10)
                self.assertEqual((type(error), error.limit), (TooMany, 2000))
                # Up to fewer steps there are fewer terms: 1, 11, 55, 165, 330, 462, 462 ..
                self.assertIs(fewest_steps(choose, one, 6), None)
                self.assertIs(type(raised(fewest_steps, choose, one, 9)), TooMany)

    def test_just_so_many_terms(self):
        self.assertEqual(module.MOST_TERMS, 2000)
        choose = Program.from_lines({"a": 0, "f": 2, "g": 0, "loop": 0}, "g => a", "loop => loop")
        one = choose.ground("f(loop, f(g, f(g, g)))")
        self.assertEqual(slow_fewest(choose, one, 10), (None, 8))
        try:
            module.MOST_TERMS = 8
            self.assertIs(fewest_steps(choose, one, 10), None)
            module.MOST_TERMS = 7
            self.assertEqual(raised(fewest_steps, choose, one, 10).limit, 7)
            self.assertIs(fewest_steps(choose, one, 2), None)
        finally:
            module.MOST_TERMS = 2000

    def test_a_result_ahead_of_too_many_terms(self):
        choose = Program.from_lines({"a": 0, "b": 0, "f": 2, "g": 0, "k": 1}, "g => a", "k(X) => b")
        text = "g"
        for _ in range(12):
            text = f"f(g, {text})"
        self.assertEqual(fewest_steps(choose, choose.ground(f"k({text})"), 10), 1)


class Judged(unittest.TestCase):
    def test_runs_and_other_rows_of_steps(self):
        chance = random.Random(148)
        for program in PROGRAMS + PLAIN:
            one = chance_term(chance, program.symbols, 9, leaves=())
            terms, places = [one], []
            for _ in range(5):
                steps = next_terms(program, terms[-1])
                if steps:
                    place, _, behind = chance.choice(steps)
                    terms.append(behind)
                    places.append(place)
            self.assertIs(is_run(program, (tuple(terms), tuple(places))), True)
            if len(terms) > 2:
                self.assertIs(is_run(program, (tuple(terms[:-1]), tuple(places))), False)
                self.assertIs(is_run(program, (tuple(terms), tuple(places[:-1]))), False)
                for number in range(len(terms)):
                    for other in (term(chance.choice(["a", "o"])), term("zz"), terms[0]):
                        changed = (*terms[:number], other, *terms[number + 1:])
                        told = all(any(step[0] == place and step[2] == after for step in (
                            next_terms(program, before) if before.symbols.items() <= program.symbols.items() else ()))
                                   for before, place, after in zip(changed, places, changed[1:]))
                        self.assertIs(is_run(program, (changed, tuple(places))),
                                      told and other.symbols.items() <= program.symbols.items())

    def test_exchanged(self):
        run = Run(PLUS, PLUS.ground("add(s(o), dup(o))"))
        terms, taken = run.terms, run.taken
        self.assertIs(is_run(PLUS, (terms, taken)), True)
        for value in [(terms[::-1], taken), (terms, taken[::-1]), (terms, (0, 1, 1)), (terms[1:], taken),
                      (terms, (0, 1, 1, 2)), (terms, (0, True, 1, 1)), (terms, (False, 1, 1, 1)),
                      (terms, (0, 1, 1, None)),
                      (terms, (0, 1, 1, "1")), (terms, (0, 1, 1, (1,))), (terms, (0, 1, 1, [])), (terms, (0, -1, 1, 1)),
                      (terms, (0, 1, 1, 10 ** 60)), (terms, (0, 1, 1, 1, 1)), (list(terms), taken),
                      (terms, list(taken)),
                      [terms, taken], (terms, taken, ()), (terms,), (tuple(one.text for one in terms), taken),
                      (terms[:2] + terms[3:], taken[:3]), ((terms[0], terms[2]), (0,)), (terms, None), (None, taken),
                      run]:
            self.assertIs(is_run(PLUS, value), False, value)

    def test_one_term_and_none(self):
        self.assertIs(is_run(PLUS, ((term("add(o, o)"),), ())), True)
        self.assertIs(is_run(PLUS, ((term("o"),), ())), True)
        for value in [((), ()), (), ((),), ((term("o"),), (0,)), ((), (0,)), ((term("h"),), ()), ((term("s(_)"),), ()),
                      ((term("#"),), ()), (("o",), ()), ((None,), ()), (term("o"), ()), ((term("add(o)"),), ())]:
            self.assertIs(is_run(PLUS, value), False, value)

    def test_other_values(self):
        for value in [*all_kinds(), SEQ, PLUS]:
            self.assertIs(is_run(PLUS, value), False)
        for value in no_programs():
            self.assertIs(type(raised(is_run, value, 5)), InvalidProgram)

    def test_any_rule_that_fits(self):
        both = Program.from_lines({"a": 0, "b": 0, "g": 1}, "g(X) => X", "g(a) => b")
        for end in "ab":
            self.assertIs(is_run(both, ((term("g(a)"), term(end)), (0,))), True)


if __name__ == "__main__":
    unittest.main()
