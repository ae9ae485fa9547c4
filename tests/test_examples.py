"""The examples of the document, as they stand there."""

import unittest

from firstneed.base.books import Book
from firstneed.base.programs import Program
from firstneed.base.terms import Term
from firstneed.base.words import is_node, is_symbols, is_word
from firstneed.errors import InvalidTerm, Refused
from firstneed.need.classes import (class_made, class_of, fires, is_redex_made, least_result, parts_of, result_classes,
                                    result_paper, results_upto)
from firstneed.need.lines import Lines, end_of, is_lines, is_way, round_of
from firstneed.need.places import Need, needed_places, next_place, strict_arguments
from firstneed.need.tables import Table, anything
from firstneed.text.shell import Shell
from firstneed.text.texts import read_numbers, read_state, write_rows, write_state
from firstneed.use.looks import Looks, has_looks, is_stuck_paper, looks_of, meeting
from firstneed.use.project import Project
from firstneed.use.runs import Run, fewest_steps
from firstneed.whole.alike import is_alike_paper, need_same, needs_over
from firstneed.whole.known import books_between, given_up, is_between, least_known, meet, spared, tips
from firstneed.whole.led import Led, entry_of, is_bad_entry, is_led_paper, led_paper, rows_of, term_of

GUS = Book.read("symbols a 0 b 0 f 3 g 0", "f(a, b, _) => _", "f(_, a, b) => _", "f(b, _, a) => _", "g => _")
SEQ = Book.read("symbols a 0 b 0 f 2 g 0", "f(a, _) => _", "f(b, a) => _", "g => _")
COND = Book.read("symbols c 3 k 1 n 0 t 0", "c(t, _, _) => _", "c(n, _, _) => _", "k(_) => t")


class Examples(unittest.TestCase):
    def test_errors_and_words(self):
        self.assertEqual(
            [is_word("cons"), is_word("_"), is_node(("f", 3)), is_node(("_", 0)), is_node(("#", 1)),
             is_symbols({"a": 0, "f": 2}), is_symbols({"f": 2})],
            [True, False, True, True, False, True, False])

    def test_terms(self):
        one, two = Term.read("f(a, _, g(_))"), Term.build("f", Term.build("_"), Term.build("b"), Term.build("_"))
        self.assertEqual(
            [one.children(0), one.unknown, (one & two).text, (one | two).text, one.part(3).text, one.above(4),
             one.filled(Term.build("a"), one.part(1)).text],
            [(1, 2, 3), (2, 4), 'f(a, b, g(_))', 'f(_, _, _)', 'g(_)', (0, 3, 4), 'f(a, a, g(a))'])
        self.assertEqual(
            [one.is_instance(two), (one & two).is_instance(two), one.with_part(1, Term.build("#")).lost, len(one),
             one.depth, str(two)],
            [False, True, (1,), 5, 3, 'f(_, b, _)'])

    def test_texts(self):
        for text in ("_", "#", "a", "f(a, _, g(#))"):
            self.assertEqual(Term.read(text).text, text)

    def test_books(self):
        term = Term.read("f(g, a, b)")
        self.assertEqual(
            [GUS.redexes(term), GUS.rules_at(term, 0), GUS.step(term, 1, 3, Term.build("b")).text,
             GUS.is_result(Term.read("f(a, a, a)")), str(GUS), GUS.defined],
            [(0, 1), (1,), 'f(b, a, b)', True, '4 symbols, 4 rules', ('f', 'g')])
        self.assertEqual(
            [SEQ.lines, SEQ.with_sketch(2, Term.build("a")).knows_more(SEQ), SEQ.knows_more(SEQ.without(0)),
             COND.strong().sketches[2].text],
            [('symbols a 0 b 0 f 2 g 0', 'f(a, _) => _', 'f(b, a) => _', 'g => _'), True, False, '_'])

    def test_programs(self):
        plus = Program.from_lines({"o": 0, "s": 1, "add": 2, "dup": 1}, "add(o, X) => X",
                                  "add(s(X), Y) => s(add(X, Y))", "dup(X) => add(X, X)")
        self.assertEqual(
            [plus.full().sketches[1].text, plus.strong().sketches[1].text, plus.known(1).sketches[1].text,
             plus.is_plain, plus.doubling],
            ['s(add(_, _))', '_', 's(_)', True, (2,)])
        term = plus.ground("add(s(o), dup(o))")
        self.assertEqual(
            [plus.redexes(term), plus.step(term, 0, 1).text, plus.step(term, 3, 2).text, plus.does_fit(plus.known(1))],
            [((0, 1), (3, 2)), 's(add(o, dup(o)))', 'add(s(o), add(o, o))', True])

    def test_classes(self):
        self.assertEqual(
            [[part.text for part in parts_of(GUS)], class_of(GUS, Term.read("a")),
             class_made(GUS, "f", ((0,), (1,), ())), is_redex_made(GUS, "f", ((0,), (1,), ())),
             fires(GUS, 1, ((0,), (1,), ()))],
            [['a', 'b'], (0,), (), True, False])
        self.assertEqual(
            [result_classes(GUS), len(least_result(GUS, ())), [term.text for term in results_upto(SEQ, 3)],
             result_paper(COND)],
            [((), (0,), (1,)), 4, ['a', 'b', 'f(b, b)'], {(0,): ('n', ()), (1,): ('t', ())}])

    def test_tables(self):
        seq = Table(SEQ)
        self.assertEqual(
            [anything(SEQ), seq.of(0) == anything(SEQ), seq.state(Term.read("f(a, #)")) == anything(SEQ),
             seq.state(Term.read("f(#, a)")), seq.state(Term.read("f(g, #)")) == anything(SEQ)],
            [((0, 1), ((), (0,), (1,))), True, True, ((), ()), True])
        self.assertEqual(
            [Table(COND).mapping, Table(COND).state(Term.read("c(k(_), #, _)"))[1], str(Table(COND))],
            [{(0, 0): ((0, 1), ((0,), (1,))), (1, 0): ((0, 1), ((0,), (1,))), (2, 0): ((1,), ((1,),))},
             ((0,), (1,)), '3 nodes, 0 of them without results'])

    def test_lines(self):
        term, lines = Term.read("f(g, #)"), (
            (("rule", 2, 0), ("can", 0), None, ()), (("term", 1), ("can", 0), 2, (0,)),
            (("rule", 0, 0), ("res", (0,)), None, ()), (("term", 0), ("res", (0,)), 0, (1, 2)))
        self.assertEqual(
            [is_lines(SEQ, term, lines), str(Lines(SEQ, term, lines)), round_of(SEQ, term, 0, ("res", (0,))),
             round_of(SEQ, Term.read("f(#, a)"), 0, ("res", (0,)))],
            [True, '4 lines, height 3', 3, None])
        a = Term.read("a")
        self.assertEqual(
            [is_way(SEQ, term, ("res", (0,)), (term, ((1, 2, a), (0, 0, a)))),
             is_way(SEQ, term, ("can", 1), (term, ((0, 0, a),))),
             end_of(SEQ, term, Lines(SEQ, term, lines).way()).text],
            [True, False, 'a'])

    def test_places(self):
        self.assertEqual(
            [needed_places(SEQ, Term.read("f(g, g)")), next_place(SEQ, Term.read("f(g, g)")),
             needed_places(GUS, Term.read("f(g, g, g)")), strict_arguments(SEQ, "f"), strict_arguments(GUS, "f"),
             strict_arguments(COND, "c")],
            [(0, 1), 1, (0,), (0,), (), (0,)])
        need = Need(COND, Term.read("c(k(t), k(t), k(t))"))
        self.assertEqual(
            [need.needed, need.asks, need.both, str(need), needed_places(COND, Term.read("c(_, t, _)"))],
            [(0, 1), (1, 3, 5), (1,), '7 nodes, 2 needed, 1 of 3 asked', (0, 1)])
        self.assertRaises(InvalidTerm, needed_places, COND, Term.read("c(_, a, _)"))

    def test_led(self):
        self.assertEqual(
            [entry_of(SEQ, Term.read("f(g, g)")), is_bad_entry(entry_of(GUS, Term.read("f(g, g, g)")))],
            [((), True, ((0, 1), ((), (0,), (1,))), (((), ()),)), True])
        self.assertEqual(
            [Led(GUS).is_led, Led(SEQ).is_led, Led(COND).is_led, Led(SEQ, is_open=True).is_led,
             rows_of(GUS, Term.read("f(g, g, g)"))],
            [False, True, True, True, (('g', ()), ('f', (0, 0, 0)))])
        self.assertEqual(
            [is_led_paper(GUS, ("bad", (("g", ()), ("f", (0, 0, 0))))), is_led_paper(SEQ, led_paper(SEQ)),
             term_of(GUS, (("g", ()), ("f", (0, 0, 0)))).text],
            [True, True, 'f(g, g, g)'])

    def test_alike(self):
        more = GUS.with_sketch(3, Term.read("a"))
        self.assertEqual(
            [need_same(GUS, more), needs_over(more, GUS), needs_over(GUS, more), need_same(GUS, GUS),
             is_alike_paper(GUS, more, ("parts", (("#", ()), ("g", ()), ("f", (0, 1, 1)))))],
            [False, True, False, True, True])

    def test_known(self):
        shut = Program.from_lines({"a": 0, "b": 0, "c": 0, "f": 3, "k": 1}, "f(a, b, X) => c", "f(X, a, b) => c",
                                  "f(b, X, a) => c", "k(X) => c")
        book, bad = least_known(shut)
        self.assertEqual(
            [tips(shut.full()), given_up(shut.full(), 3, 0) == shut.known(0),
             is_between(book, shut.strong(), shut.full()), sorted(list(bad)) == sorted(list(tips(book)))],
            [((0, 0), (1, 0), (2, 0), (3, 0)), False, True, True])
        self.assertEqual(
            [len(list(books_between(shut.strong(), shut.full()))), meet(shut.full(), shut.strong()) == shut.strong(),
             spared(shut, shut.ground("f(k(a), k(a), k(a))"))],
            [16, True, {1: 'known', 3: 'known', 5: 'known'}])

    def test_looks(self):
        self.assertEqual(
            [has_looks(SEQ, "f"), has_looks(GUS, "f"), looks_of(SEQ, Term.read("f(_, _)")),
             looks_of(SEQ, Term.read("f(b, _)")), meeting(GUS, Term.read("f(a, _, _)"))],
            [True, False, (1,), (2,), (0, 1)])
        tree = Looks(SEQ, "f")
        self.assertEqual(
            [str(tree), tree.path(Term.read("f(b, g)")), tree.path(Term.read("f(a, b)")),
             str(tree.settled_at(Term.read("f(a, b)"))), is_stuck_paper(GUS, "f", (Term.read("f(_, _, _)"), ()))],
            ['9 nodes, 2 looks', (1, 2), (1,), 'f(a, _)', True])

    def test_runs(self):
        plus = Program.from_lines({"o": 0, "s": 1, "add": 2, "dup": 1}, "add(o, X) => X",
                                  "add(s(X), Y) => s(add(X, Y))", "dup(X) => add(X, X)")
        run = Run(plus, plus.ground("add(s(o), dup(o))"))
        self.assertEqual(
            [str(run), run.result.text, run.taken, run.rules, Run(plus, run.terms[0], "inner").taken,
             fewest_steps(plus, run.terms[0])],
            ['4 steps, result', 's(o)', (0, 1, 1, 1), (1, 0, 2, 0), (3, 3, 0, 1), 4])

    def test_projects(self):
        project = Project({"a": 0, "b": 0, "f": 2, "g": 0})
        any_term = Term.read("_")
        self.assertEqual(
            [project.strict("f"), project.put("one", Term.read("f(a, _)"), any_term),
             project.put("two", Term.read("f(b, a)"), any_term), project.put("z", Term.read("g"), any_term),
             project.strict("f")],
            [(0, 1), (('f', 'looser'),), (), (), (0,)])
        self.assertEqual(
            [project.pin(("led",)), project.trial(("put", "one", Term.read("f(_, a)"), any_term)),
             project.does_hold(("needed", "f(g, g)", 1)), project.undo(many=2), str(project)],
            [(), ((('f', 'other'),),), True, (), 'project of 2 rules, 0 sayings'])
        self.assertEqual([project.redo(many=2), project.log], [(), ('put', 'put', 'put', 'pin')])
        self.assertRaises(Refused, project.put, "two", Term.read("f(_, a)"), any_term)

    def test_texts_of_values_and_a_shell(self):
        self.assertEqual(
            Shell(SEQ).run_all("needed f(g, g)", "next f(g, g)", "strict f", "looks f", "led", "class f(b, a)",
                               "needed f(h)", "drop 7", "drop 2", "asked f(g, _)"),
            ('0 1', '1', '0', 'yes', 'yes', '-', 'error InvalidTerm', 'error InvalidNumber', 'ok', '2'))
        self.assertEqual(
            [write_state(((0, 1), ((), (0, 2)))), read_state("- | none"),
             write_rows((("a", ()), ("f", (0, 0)))).split("\n"), read_numbers("0 4")],
            ['0 1 | -; 0 2', ((), ()), ['a', 'f 0 0'], (0, 4)])


if __name__ == "__main__":
    unittest.main()
