"""[0.10], [0.11], [3.1], [3.2]: books, their lines, redexes and steps."""

import random
import unittest

from firstneed.base import books
from firstneed.base.books import Book, read_rules
from firstneed.base.terms import Term
from firstneed.errors import InvalidBook, InvalidNumber, InvalidOperation, InvalidTerm, ParseError, UnknownPlace
from tests.helper import all_kinds, chain, fits, nodes_of, parts_of, raised
from tests.samples import COND, GUS, LARGE, SEQ, chance_books, chance_term, term, terms
from tests.slow import book_parts, filled_trees, is_redex, is_result, nested, steps_of

LISTED = ("read", "redexes", "rules_at", "is_result", "step", "is_step", "with_rule", "without", "with_symbol",
          "with_sketch", "strong", "renamed", "knows_more", "__or__", "__getitem__", "__len__", "__iter__",
          "__contains__", "__eq__", "__str__")
PROPERTIES = ("symbols", "rules", "patterns", "sketches", "lines", "constants", "defined")
BOOKS = chance_books(31, 60)


def no_indices(many):
    """Values that are no indices of so many things."""
    return [-1, many, many + 1, 10 ** 60, -(10 ** 60), True, False, None, "0", (0,), [0], {}, term("a")]


class Interface(unittest.TestCase):
    def test_constants(self):
        self.assertEqual([books.MAX_RULES, books.MAX_RULE_NODES, books.MAX_PARTS], [6, 7, 10])

    def test_methods_stand_in_the_class_itself(self):
        for name in LISTED:
            self.assertIn(name, vars(Book))
        self.assertIsInstance(vars(Book)["read"], classmethod)

    def test_properties_are_there_from_the_beginning(self):
        for book in (Book({"a": 0}), Book.read("symbols a 0"), SEQ.strong()):
            for name in PROPERTIES:
                self.assertTrue(hasattr(book, name), name)


class Made(unittest.TestCase):
    def assert_invalid(self, *given):
        self.assertIs(type(raised(Book, *given)), InvalidBook, given)

    def test_without_rules(self):
        for book in (Book({"a": 0}), Book({"a": 0}, ()), Book.read("symbols a 0")):
            self.assertEqual([book.rules, book.symbols, len(book), str(book)], [(), {"a": 0}, 0, "1 symbols, 0 rules"])

    def test_symbols_are_one_to_eight(self):
        self.assertEqual(len(Book({letter: 0 for letter in "abcdefgh"}).symbols), 8)
        self.assert_invalid({letter: 0 for letter in "abcdefghi"})
        self.assert_invalid({})

    def test_symbols_are_words_with_arities_and_one_constant(self):
        for symbols in [{"f": 1}, {"a": 0, "f": 4}, {"a": 0, "f": -1}, {"a": False}, {"a": 0, "f": True}, {"A": 0},
                        {"a": 0, "_": 0}, {"a": 0, "#": 0}, {"abcdefghi": 0}, {"": 0}, {"a": 0, 1: 0}, {("a",): 0}]:
            self.assert_invalid(symbols)

    def test_wrong_kinds_of_symbols(self):
        for value in all_kinds():
            if value != {"a": 0}:
                self.assert_invalid(value)
                self.assert_invalid(value, ())
                self.assert_invalid(value, 5)

    def test_wrong_kinds_of_rules(self):
        for value in all_kinds():
            if value != ():
                self.assert_invalid({"a": 0}, value)
            self.assert_invalid({"a": 0}, (value,))
            if value != term("a"):
                self.assert_invalid({"a": 0}, ((value, term("a")),))
            if value not in (term("a"), term("_")):
                self.assert_invalid({"a": 0}, ((term("a"), value),))
        one = (term("a"), term("a"))
        self.assert_invalid({"a": 0}, [one])
        self.assert_invalid({"a": 0}, (list(one),))
        self.assert_invalid({"a": 0}, one)
        self.assert_invalid({"a": 0}, ((*one, term("a")),))
        self.assert_invalid({"a": 0}, (one[:1],))

    def test_six_rules_and_no_more(self):
        symbols = {"a": 0, "b": 0, "f": 2, "g": 1}
        rules = read_rules("a => _", "b => _", "f(_, _) => a", "g(_) => a", "f(a, _) => b", "f(_, a) => b")
        self.assertEqual(len(Book(symbols, rules)), 6)
        self.assert_invalid(symbols, rules + read_rules("g(a) => b"))

    def test_seven_nodes_and_no_more(self):
        seven, eight = term("g(" * 6 + "a" + ")" * 6), term("g(" * 7 + "a" + ")" * 7)
        symbols = {"a": 0, "g": 1}
        self.assertEqual(Book(symbols, ((seven, seven),)).rules, ((seven, seven),))
        self.assert_invalid(symbols, ((seven, eight),))
        self.assert_invalid(symbols, ((eight, seven),))

    def test_ten_parts_and_no_more(self):
        symbols = {"a": 0, "g": 1, "h": 1}
        six = term("h(" + "g(" * 5 + "a" + ")" * 6)
        self.assertEqual(len(book_parts(Book(symbols, ((six, six),)))), 6)
        ten = (six, term("g(h(h(h(h(_)))))"))
        self.assertEqual(len(book_parts(Book(symbols, tuple((side, six) for side in ten)))), 10)
        self.assert_invalid(symbols, tuple((side, six) for side in (six, term("g(h(h(h(h(h(_))))))"))))
        self.assertEqual(len(book_parts(LARGE)), 10)

    def test_a_pattern_counts_as_a_part_only_where_it_is_one(self):
        symbols = {"a": 0, "g": 1, "h": 1}
        six, five = term("h(" + "g(" * 5 + "a" + ")" * 6), term("g(h(h(h(h(_)))))")
        self.assertEqual(len(book_parts(Book(symbols, tuple((side, six) for side in (six, five, term("g(a)")))))), 10)
        self.assert_invalid(symbols, tuple((side, six) for side in (six, five, term("h(g(_))"))))

    def test_patterns(self):
        symbols = {"a": 0, "f": 2}
        for texts in [("_", "a"), ("#", "a"), ("f(#, a)", "a"), ("a", "#"), ("a", "f(a, #)"), ("b", "a"), ("a", "b"),
                      ("f(a)", "a"), ("a", "f(a)"), ("f", "a"), ("a(_)", "f(a, a)"), ("_", "_")]:
            self.assert_invalid(symbols, (terms(*texts),))
        self.assertEqual(Book(symbols, (terms("f(_, _)", "_"),)).lines, ("symbols a 0 f 2", "f(_, _) => _"))

    def test_patterns_are_all_different(self):
        symbols = {"a": 0, "f": 2}
        self.assert_invalid(symbols, read_rules("f(a, _) => a", "f(a, _) => a"))
        self.assert_invalid(symbols, read_rules("f(a, _) => a", "a => _", "f(a, _) => _"))
        self.assertEqual(len(Book(symbols, read_rules("f(a, _) => a", "f(_, a) => a", "f(a, a) => a"))), 3)

    def test_a_book_shares_nothing(self):
        symbols = {"b": 0, "a": 0}
        book = Book(symbols)
        symbols["c"] = 0
        book.symbols["d"] = 0
        self.assertEqual([book.symbols, list(book.symbols)], [{"a": 0, "b": 0}, ["a", "b"]])
        self.assertEqual(symbols, {"b": 0, "a": 0, "c": 0})


class Lines(unittest.TestCase):
    def test_lines(self):
        self.assertEqual(GUS.lines, ("symbols a 0 b 0 f 3 g 0", "f(a, b, _) => _", "f(_, a, b) => _",
                                     "f(b, _, a) => _", "g => _"))
        self.assertEqual(Book({"f": 1, "c": 0, "a": 0}).lines, ("symbols a 0 c 0 f 1",))

    def test_lines_are_read_again(self):
        for book in BOOKS:
            self.assertEqual(Book.read(*book.lines), book)
            self.assertEqual(read_rules(*book.lines[1:]), book.rules)

    def test_no_lines(self):
        error = raised(Book.read)
        self.assertEqual((type(error), error.line), (ParseError, 0))

    def test_wrong_first_lines(self):
        for line in ["", "symbols", "symbols ", "symbols a", "symbols a 0 ", " symbols a 0",
                     "symbols  a 0", "Symbols a 0",
                     "symbols b 0 a 0", "symbols a 0 a 0", "symbols a 0 a 1", "symbols f 1", "symbols a 0 f 4",
                     "symbols a 0 f -1", "symbols a 00", "symbols a 0\n", "symbols a +0", "symbols a 0 f",
                     "symbols a 0 _ 0", "symbols a 0 f x", "symbol a 0", "a 0",
                     "symbols a 0 b 0 c 0 d 0 e 0 f 0 g 0 h 0 i 0",
                     "symbols abcdefghi 0", "f(a) => a", *all_kinds()]:
            for lines in [(line,), (line, "a => a"), (line, "wrong")]:
                error = raised(Book.read, *lines)
                self.assertEqual((type(error), error.line), (ParseError, 0), lines)

    def test_words_of_first_lines_can_be_any(self):
        self.assertEqual(Book.read("symbols symbols 0").symbols, {"symbols": 0})

    def test_wrong_rule_lines(self):
        for line in ["", "a", "a =>", "a => ", " => a", "a=>a", "a  => a", "a =>  a", "a => a => a", "a => a ",
                     " a => a",
                     "a => b)", "f(a,a) => a", "f(f) => a", "a => f(f, a)", "A => a", "X => X", "a => a\n", "a -> a",
                     chain(41) + " => a", "a => " + chain(41), "symbols a 0", *all_kinds()]:
            error = raised(Book.read, "symbols a 0 f 1", "a => a", line, "wrong")
            self.assertEqual((type(error), error.line), (ParseError, 2), line)
            error = raised(read_rules, "a => a", line, "wrong")
            self.assertEqual((type(error), error.line), (ParseError, 1), line)

    def test_read_rules_does_not_ask_what_a_book_asks(self):
        self.assertEqual(read_rules(), ())
        given = ("_ => #", "f(a) => f(a, a)", chain(40) + " => " + chain(40), "_ => #")
        rules = read_rules(*given)
        self.assertEqual(tuple(f"{left} => {right}" for left, right in rules), given)
        self.assertEqual(rules[0], terms("_", "#"))
        for line in given:
            self.assertIs(type(raised(Book.read, "symbols a 0 f 1 g 1", line)), InvalidBook, line)

    def test_lines_of_no_book(self):
        for lines in [("symbols a 0", "b => a"), ("symbols a 0", "a => a", "a => a"), ("symbols a 0", "a => a(_)"),
                      ("symbols a 0 f 1", *["f(" * at + "a" + ")" * at + " => a" for at in range(7)])]:
            self.assertIs(type(raised(Book.read, *lines)), InvalidBook)
        error = raised(Book.read, "symbols a 0", "b => a", "no")
        self.assertEqual((type(error), error.line), (ParseError, 2))


class Told(unittest.TestCase):
    def test_properties(self):
        book = Book.read("symbols a 0 b 0 f 2 g 1", "g(_) => b", "f(a, _) => _", "g(a) => a")
        self.assertEqual(book.rules, (terms("g(_)", "b"), terms("f(a, _)", "_"), terms("g(a)", "a")))
        self.assertEqual(book.patterns, terms("g(_)", "f(a, _)", "g(a)"))
        self.assertEqual(book.sketches, terms("b", "_", "a"))
        self.assertEqual([book.constants, book.defined], [("a", "b"), ("f", "g")])
        self.assertEqual([Book({"a": 0}).defined, COND.constants], [(), ("n", "t")])

    def test_as_a_row_of_rules(self):
        for book in BOOKS:
            self.assertEqual([book[at] for at in range(len(book))], list(book))
            self.assertEqual(tuple(book), book.rules)
            for wrong in no_indices(len(book)):
                error = raised(lambda: book[wrong])
                self.assertEqual((type(error), error.number), (InvalidNumber, wrong))

    def test_words_in_it(self):
        for book in BOOKS:
            for value in all_kinds() + list(book.symbols):
                self.assertEqual(value in book, isinstance(value, str) and value in book.symbols)

    def test_equality(self):
        for value in all_kinds():
            self.assertFalse(SEQ == value)
            self.assertTrue(SEQ != value)
        self.assertEqual(SEQ, Book(SEQ.symbols, tuple(list(SEQ.rules))))
        self.assertNotEqual(SEQ, SEQ.with_symbol("h", 0))
        self.assertNotEqual(SEQ, Book(SEQ.symbols, SEQ.rules[::-1]))
        self.assertNotEqual(SEQ, SEQ.with_sketch(0, term("a")))

    def test_text(self):
        self.assertEqual([str(GUS), str(COND)], ["4 symbols, 4 rules", "4 symbols, 3 rules"])


class Redexes(unittest.TestCase):
    def test_by_the_second_reading(self):
        chance = random.Random(32)
        for book in BOOKS:
            for leaves in [(), ("_",), ("#",), ("_", "#")]:
                one = chance_term(chance, book.symbols, chance.choice([1, 5, 20]), leaves=leaves)
                tree = nested(one.nodes)
                places = [at for at, inner in enumerate(parts_of(tree)) if is_redex(book, inner)]
                self.assertEqual(book.redexes(one), tuple(places))
                self.assertIs(book.is_result(one), is_result(book, tree))
                for at, inner in enumerate(parts_of(tree)):
                    fitting = [rule for rule, (pattern, _) in enumerate(book) if fits(inner, nested(pattern.nodes))]
                    self.assertEqual(book.rules_at(one, at), tuple(fitting))

    def test_leaves(self):
        self.assertEqual(SEQ.redexes(term("f(a, #)")), (0,))
        self.assertEqual(SEQ.redexes(term("f(_, a)")), ())
        self.assertEqual([SEQ.is_result(term(text)) for text in ("_", "#", "f(b, #)", "f(b, b)", "f(b, g)")],
                         [False, False, False, True, False])

    def test_wrong_terms_and_places(self):
        for value in all_kinds() + [term("h"), term("f(a)"), term("f"), term("f(a, g(a))"), SEQ, "f(a, a)"]:
            if value in (term("a"), term("_")):
                continue
            for call in (SEQ.redexes, SEQ.is_result):
                self.assertIs(type(raised(call, value)), InvalidTerm)
            self.assertIs(type(raised(SEQ.rules_at, value, 99)), InvalidTerm)
        for wrong in no_indices(3):
            error = raised(SEQ.rules_at, term("f(a, a)"), wrong)
            self.assertEqual((type(error), error.spot), (UnknownPlace, wrong))


class Steps(unittest.TestCase):
    def test_steps_put_instances_of_the_sketch(self):
        book = Book.read("symbols a 0 b 0 f 2", "f(a, _) => f(_, f(b, _))", "b => _")
        one = term("f(_, f(a, #))")
        self.assertEqual(book.step(one, 2, 0, term("b"), term("a")).text, "f(_, f(b, f(b, a)))")
        self.assertEqual(book.step(term("f(b, a)"), 1, 1, term("f(a, a)")).text, "f(f(a, a), a)")

    def test_by_the_second_reading(self):
        chance = random.Random(33)
        for book in BOOKS:
            one = chance_term(chance, book.symbols, 8, leaves=())
            small = [(word,) for word in book.constants]
            behind = set(steps_of(book, nested(one.nodes), small))
            for place in book.redexes(one):
                for rule in book.rules_at(one, place):
                    for put in filled_trees(nested(book.sketches[rule].nodes), small):
                        fills = Term(nodes_of(put)).fillings(book.sketches[rule])
                        other = book.step(one, place, rule, *fills)
                        self.assertIn(nested(other.nodes), behind)
                        self.assertTrue(book.is_step(one, place, rule, other))

    def test_is_step_with_all_small_terms(self):
        book = Book.read("symbols a 0 b 0 f 2", "f(a, _) => f(b, _)", "b => _", "a => a")
        for text in ["f(a, b)", "f(f(a, b), _)", "f(#, f(a, a))", "b"]:
            one = term(text)
            for place in book.redexes(one):
                for rule in book.rules_at(one, place):
                    for other in [one.with_part(at, inner) for at in range(len(one)) for inner in
                                  terms("a", "b", "_", "#", "f(b, a)", "f(b, _)", "f(b, f(a, a))", "f(a, b)")]:
                        tree, sketch = nested(other.nodes), nested(book.sketches[rule].nodes)
                        expected = False
                        if len(other) > place and one.with_part(place, other.part(place)) == other:
                            put = other.part(place)
                            expected = put.is_ground and fits(nested(put.nodes), sketch)
                        self.assertIs(book.is_step(one, place, rule, other), expected, (text, place, rule, tree))

    def test_errors_in_their_order(self):
        one, long = term("f(a, b)"), Term.read("f(a, " * 18 + "f(a, g)" + ")" * 18)
        step, is_step = SEQ.step, SEQ.is_step
        self.assertIs(type(raised(step, term("h"), 9, 9, 5)), InvalidTerm)
        self.assertIs(type(raised(is_step, term("h"), 9, 9, 5)), InvalidTerm)
        for wrong in no_indices(3):
            for call in (step, is_step):
                error = raised(call, one, wrong, 9, 5)
                self.assertEqual((type(error), error.spot), (UnknownPlace, wrong))
                error = raised(call, one, 1, wrong, 5)
                self.assertEqual((type(error), error.number), (InvalidNumber, wrong))
        self.assertIs(type(raised(is_step, one, 1, 2, 5)), InvalidTerm)
        self.assertIs(type(raised(is_step, one, 1, 2, term("h"))), InvalidTerm)
        self.assertIs(type(raised(is_step, one, 1, 2, one)), InvalidOperation)
        self.assertIs(type(raised(step, one, 1, 2, term("a"))), InvalidOperation)
        self.assertIs(type(raised(step, long, 0, 0, long, long)), InvalidOperation)
        self.assertEqual(len(step(one, 0, 0, one)), 3)
        for given in [(), (one, one), (None,), ("a",), (term("_"),), (term("#"),), (term("h"),), (term("f(a)"),), (5,),
                      (term("f(a, _)"),), ((one,),), ([one],)]:
            self.assertIs(type(raised(step, one, 0, 0, *given)), InvalidOperation)

    def test_too_large_a_term_behind_a_step(self):
        book = Book.read("symbols a 0 b 0 f 2", "f(a, _) => f(b, _)", "b => _")
        one, long = term("f(a, b)"), Term.read("f(a, " * 18 + "f(a, a)" + ")" * 18)
        self.assertEqual(len(long), 39)
        self.assertIs(type(raised(book.step, one, 0, 0, long)), InvalidTerm)
        self.assertIs(type(raised(book.step, one, 2, 1, long)), InvalidTerm)
        self.assertEqual(len(book.step(one, 0, 0, long.part(2))), 39)

    def test_nothing_is_changed(self):
        chance = random.Random(34)
        for book in BOOKS:
            lines, one = book.lines, chance_term(chance, book.symbols, 9)
            text, redexes = one.text, book.redexes(one)
            for called in (book.strong, lambda: book | book, lambda: book.is_result(one), lambda: str(book)):
                called()
            self.assertEqual([book.lines, one.text, book.redexes(one)], [lines, text, redexes])
            self.assertEqual(book, Book.read(*lines))


if __name__ == "__main__":
    unittest.main()
