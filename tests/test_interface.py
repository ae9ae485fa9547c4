"""The interface: all names, where they are defined, and their parameters."""

import importlib
import inspect
import unittest

FUNCTIONS = {
    "firstneed.base.words": ["is_integer(value)", "is_word(value)", "is_node(value)", "is_symbols(value)"],
    "firstneed.base.books": ["read_rules(*texts)"],
    "firstneed.base.programs": ["is_scheme(value)"],
    "firstneed.need.classes": [
        "parts_of(book)", "class_of(book, term)", "class_made(book, word, classes)",
                               "is_redex_made(book, word, classes)",
        "fires(book, rule, classes)", "is_class(book, value)", "is_result(book, term)", "result_classes(book)",
        "least_result(book, value)", "results_upto(book, size)", "result_paper(book)", "is_result_paper(book, value)",
        "is_closed_row(book, value)"],
    "firstneed.need.tables": ["is_state(book, value)", "is_table(book, value)", "is_closed(book, value)",
                              "is_below(one, other)", "anything(book)"],
    "firstneed.need.lines": [
        "is_lines(book, term, value)", "shown(book, term, at, fact)", "is_shown(book, term, at, fact, value)",
        "round_of(book, term, at, fact)", "is_way(book, term, fact, value)", "end_of(book, term, way)"],
    "firstneed.need.places": [
        "is_needed(book, term, at)", "needed_places(book, term)", "asked_places(book, term)", "next_place(book, term)",
        "strict_arguments(book, word)", "needed_paper(book, term, at)", "is_needed_paper(book, term, at, value)",
        "spared_paper(book, term, at)", "is_spared_paper(book, term, at, value)", "around(book, term, at)"],
    "firstneed.whole.led": [
        "entry_of(book, term, table=None, *, is_open=False)", "is_bad_entry(entry)", "does_cover(entry, other)",
        "is_rows(book, value, *, is_open=False)", "term_of(book, rows, *, is_open=False)",
        "rows_of(book, term, *, is_open=False)", "led_paper(book, *, is_open=False)",
        "is_led_paper(book, value, *, is_open=False)"],
    "firstneed.whole.alike": [
        "need_same(one, other)", "plain_pairs(one, other)", "marked_pairs(one, other)", "parting_rows(one, other)",
        "parting_term(one, other)", "alike_paper(one, other)", "is_alike_paper(one, other, value)",
        "needs_over(one, other)"],
    "firstneed.whole.known": [
        "is_between(book, low, high)", "tips(book)", "given_up(book, rule, node)", "meet(one, other)",
        "joined(one, other)", "books_between(low, high)", "least_known(program, *, is_open=False)",
        "is_least_known(program, value, *, is_open=False)", "spared(program, term)"],
    "firstneed.use.looks": [
        "is_settled(book, term)", "looks_of(book, term)", "meeting(book, term)", "has_looks(book, word)",
        "stuck_paper(book, word)", "is_stuck_paper(book, word, value)"],
    "firstneed.use.runs": ["next_terms(program, term)", "fewest_steps(program, term, most=6)",
                           "is_run(program, value)"],
    "firstneed.text.texts": [
        "write_numbers(numbers)", "read_numbers(text)", "write_state(state)", "read_state(text)", "write_table(table)",
        "read_table(text)", "write_rows(rows)", "read_rows(text)", "write_program(program)", "read_program(text)"],
}

CLASSES = {
    "firstneed.base.books.Book": [
        "__init__(self, symbols, rules=())", "redexes(self, term)", "rules_at(self, term, place)",
                                  "is_result(self, term)",
        "step(self, term, place, rule, *terms)", "is_step(self, one, place, rule, other)",
        "with_rule(self, pattern, sketch)", "without(self, rule)", "with_symbol(self, word, arity)",
        "with_sketch(self, rule, sketch)", "strong(self)", "renamed(self, names)", "knows_more(self, value)"],
    "firstneed.base.programs.Program": [
        "__init__(self, symbols, rules)", "full(self)", "strong(self)", "known(self, depth)", "does_fit(self, book)",
        "redexes(self, term)", "step(self, term, place, rule)", "is_result(self, term)", "ground(self, text)",
        "with_rule(self, left, right)", "without(self, rule)"],
    "firstneed.need.tables.Table": [
        "__init__(self, book, rows=None)", "is_least(self)", "of(self, rule)", "made(self, word, states)",
        "fired(self, word, states)", "state(self, term)", "states(self, term)", "assuming(self, rule, place, state)",
        "joined(self, other)", "shared(self, other)", "is_within(self, value)"],
    "firstneed.need.lines.Lines": [
        "__init__(self, book, term, lines)", "height_at(self, index)", "upto(self, index)", "trimmed(self)",
                                   "way(self)"],
    "firstneed.need.places.Need": ["__init__(self, book, term)", "holed(self, at)", "replaced(self, at, term)"],
    "firstneed.whole.led.Led": ["__init__(self, book, *, is_open=False)", "rows_with(self, entry)", "bad_rows(self)",
                                "bad_term(self)"],
    "firstneed.use.looks.Looks": ["__init__(self, book, word)", "path(self, term)", "settled_at(self, term)",
                                  "rule(self, term)"],
    "firstneed.use.runs.Run": ["__init__(self, program, term, strategy='needed', *, knowing=None, bound=50)"],
    "firstneed.use.project.Project": [
        "__init__(self, symbols)", "put(self, name, pattern, sketch)", "remove(self, name)",
        "symbol(self, word, arity)", "pin(self, saying)", "unpin(self, saying)", "does_hold(self, saying)",
        "strict(self, word)", "rule_named(self, name)", "trial(self, *changes)", "block(self)", "during(self, call)",
        "undo(self, *, many=1)", "redo(self, *, many=1)", "twin(self)"],
    "firstneed.text.shell.Shell": ["__init__(self, book)", "run(self, command)", "run_all(self, *commands)"],
}


class Interface(unittest.TestCase):
    def test_functions(self):
        for module, texts in FUNCTIONS.items():
            for text in texts:
                name = text.split("(")[0]
                function = getattr(importlib.import_module(module), name)
                self.assertEqual(function.__module__, module)
                self.assertEqual(name + str(inspect.signature(function)), text)

    def test_classes(self):
        for path, texts in CLASSES.items():
            module, name = path.rsplit(".", 1)
            found = getattr(importlib.import_module(module), name)
            self.assertEqual(found.__module__, module)
            for text in texts:
                method = vars(found)[text.split("(")[0]]
                self.assertEqual(method.__name__ + str(inspect.signature(method)), text)

    def test_class_methods(self):
        books, programs = (importlib.import_module(f"firstneed.base.{name}") for name in ("books", "programs"))
        self.assertEqual(str(inspect.signature(books.Book.read)), "(*lines)")
        self.assertEqual(str(inspect.signature(programs.Program.from_lines)), "(symbols, *lines)")
        for found, name in [(books.Book, "read"), (programs.Program, "from_lines")]:
            self.assertIsInstance(vars(found)[name], classmethod)


if __name__ == "__main__":
    unittest.main()
