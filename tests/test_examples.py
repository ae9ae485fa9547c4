"""The examples of the document, as they stand there."""

import unittest

from firstneed.base.books import Book
from firstneed.base.programs import Program
from firstneed.base.terms import Term
from firstneed.base.words import is_node, is_symbols, is_word
from firstneed.errors import InvalidTerm
from firstneed.need.classes import (class_made, class_of, fires, is_redex_made, least_result, parts_of, result_classes,
                                    result_paper, results_upto)
from firstneed.need.lines import Lines, end_of, is_lines, is_way, round_of
from firstneed.need.places import Need, needed_places, next_place, strict_arguments
from firstneed.need.tables import Table, anything
from firstneed.whole.led import Led, entry_of, is_bad_entry, is_led_paper, led_paper, rows_of, term_of

GUS = Book.read("symbols a 0 b 0 f 3 g 0", "f(a, b, _) => _", "f(_, a, b) => _", "f(b, _, a) => _", "g => _")
SEQ = Book.read("symbols a 0 b 0 f 2 g 0", "f(a, _) => _", "f(b, a) => _", "g => _")
COND = Book.read("symbols c 3 k 1 n 0 t 0", "c(t, _, _) => _", "c(n, _, _) => _", "k(_) => t")


class Examples(unittest.TestCase):
    def test_errors_and_words(self):
        self.assertEqual(
            [is_word("cons"), is_word("_"), is_node(("f", 3)), is_node(("_", 0)), is_node(("#", 1)),
             is_symbols({"a": 0, "f": 2}), is_symbols({"f": 2})],
            [True, False, True, True, False, True, False])

    def test_terms(self):
        one, two = Term.read("f(a, _, g(_))"), Term.build("f", Term.build("_"), Term.build("b"), Term.build("_"))
        self.assertEqual(
            [one.children(0), one.unknown, (one & two).text, (one | two).text, one.part(3).text, one.above(4),
             one.filled(Term.build("a"), one.part(1)).text],
            [(1, 2, 3), (2, 4), 'f(a, b, g(_))', 'f(_, _, _)', 'g(_)', (0, 3, 4), 'f(a, a, g(a))'])
        self.assertEqual(
            [one.is_instance(two), (one & two).is_instance(two), one.with_part(1, Term.build("#")).lost, len(one),
             one.depth, str(two)],
            [False, True, (1,), 5, 3, 'f(_, b, _)'])

    def test_texts(self):
        for text in ("_", "#", "a", "f(a, _, g(#))"):
            self.assertEqual(Term.read(text).text, text)

    def test_books(self):
        term = Term.read("f(g, a, b)")
        self.assertEqual(
            [GUS.redexes(term), GUS.rules_at(term, 0), GUS.step(term, 1, 3, Term.build("b")).text,
             GUS.is_result(Term.read("f(a, a, a)")), str(GUS), GUS.defined],
            [(0, 1), (1,), 'f(b, a, b)', True, '4 symbols, 4 rules', ('f', 'g')])
        self.assertEqual(
            [SEQ.lines, SEQ.with_sketch(2, Term.build("a")).knows_more(SEQ), SEQ.knows_more(SEQ.without(0)),
             COND.strong().sketches[2].text],
            [('symbols a 0 b 0 f 2 g 0', 'f(a, _) => _', 'f(b, a) => _', 'g => _'), True, False, '_'])

    def test_programs(self):
        plus = Program.from_lines({"o": 0, "s": 1, "add": 2, "dup": 1}, "add(o, X) => X",
                                  "add(s(X), Y) => s(add(X, Y))", "dup(X) => add(X, X)")
        self.assertEqual(
            [plus.full().sketches[1].text, plus.strong().sketches[1].text, plus.known(1).sketches[1].text,
             plus.is_plain, plus.doubling],
            ['s(add(_, _))', '_', 's(_)', True, (2,)])
        term = plus.ground("add(s(o), dup(o))")
        self.assertEqual(
            [plus.redexes(term), plus.step(term, 0, 1).text, plus.step(term, 3, 2).text, plus.does_fit(plus.known(1))],
            [((0, 1), (3, 2)), 's(add(o, dup(o)))', 'add(s(o), add(o, o))', True])

    def test_classes(self):
        self.assertEqual(
            [[part.text for part in parts_of(GUS)], class_of(GUS, Term.read("a")),
             class_made(GUS, "f", ((0,), (1,), ())), is_redex_made(GUS, "f", ((0,), (1,), ())),
             fires(GUS, 1, ((0,), (1,), ()))],
            [['a', 'b'], (0,), (), True, False])
        self.assertEqual(
            [result_classes(GUS), len(least_result(GUS, ())), [term.text for term in results_upto(SEQ, 3)],
             result_paper(COND)],
            [((), (0,), (1,)), 4, ['a', 'b', 'f(b, b)'], {(0,): ('n', ()), (1,): ('t', ())}])

    def test_tables(self):
        seq = Table(SEQ)
        self.assertEqual(
            [anything(SEQ), seq.of(0) == anything(SEQ), seq.state(Term.read("f(a, #)")) == anything(SEQ),
             seq.state(Term.read("f(#, a)")), seq.state(Term.read("f(g, #)")) == anything(SEQ)],
            [((0, 1), ((), (0,), (1,))), True, True, ((), ()), True])
        self.assertEqual(
            [Table(COND).mapping, Table(COND).state(Term.read("c(k(_), #, _)"))[1], str(Table(COND))],
            [{(0, 0): ((0, 1), ((0,), (1,))), (1, 0): ((0, 1), ((0,), (1,))), (2, 0): ((1,), ((1,),))},
             ((0,), (1,)), '3 nodes, 0 of them without results'])

    def test_lines(self):
        term, lines = Term.read("f(g, #)"), (
            (("rule", 2, 0), ("can", 0), None, ()), (("term", 1), ("can", 0), 2, (0,)),
            (("rule", 0, 0), ("res", (0,)), None, ()), (("term", 0), ("res", (0,)), 0, (1, 2)))
        self.assertEqual(
            [is_lines(SEQ, term, lines), str(Lines(SEQ, term, lines)), round_of(SEQ, term, 0, ("res", (0,))),
             round_of(SEQ, Term.read("f(#, a)"), 0, ("res", (0,)))],
            [True, '4 lines, height 3', 3, None])
        a = Term.read("a")
        self.assertEqual(
            [is_way(SEQ, term, ("res", (0,)), (term, ((1, 2, a), (0, 0, a)))),
             is_way(SEQ, term, ("can", 1), (term, ((0, 0, a),))),
             end_of(SEQ, term, Lines(SEQ, term, lines).way()).text],
            [True, False, 'a'])

    def test_places(self):
        self.assertEqual(
            [needed_places(SEQ, Term.read("f(g, g)")), next_place(SEQ, Term.read("f(g, g)")),
             needed_places(GUS, Term.read("f(g, g, g)")), strict_arguments(SEQ, "f"), strict_arguments(GUS, "f"),
             strict_arguments(COND, "c")],
            [(0, 1), 1, (0,), (0,), (), (0,)])
        need = Need(COND, Term.read("c(k(t), k(t), k(t))"))
        self.assertEqual(
            [need.needed, need.asks, need.both, str(need), needed_places(COND, Term.read("c(_, t, _)"))],
            [(0, 1), (1, 3, 5), (1,), '7 nodes, 2 needed, 1 of 3 asked', (0, 1)])
        self.assertRaises(InvalidTerm, needed_places, COND, Term.read("c(_, a, _)"))

    def test_led(self):
        self.assertEqual(
            [entry_of(SEQ, Term.read("f(g, g)")), is_bad_entry(entry_of(GUS, Term.read("f(g, g, g)")))],
            [((), True, ((0, 1), ((), (0,), (1,))), (((), ()),)), True])
        self.assertEqual(
            [Led(GUS).is_led, Led(SEQ).is_led, Led(COND).is_led, Led(SEQ, is_open=True).is_led,
             rows_of(GUS, Term.read("f(g, g, g)"))],
            [False, True, True, True, (('g', ()), ('f', (0, 0, 0)))])
        self.assertEqual(
            [is_led_paper(GUS, ("bad", (("g", ()), ("f", (0, 0, 0))))), is_led_paper(SEQ, led_paper(SEQ)),
             term_of(GUS, (("g", ()), ("f", (0, 0, 0)))).text],
            [True, True, 'f(g, g, g)'])


if __name__ == "__main__":
    unittest.main()
