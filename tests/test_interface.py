"""The interface: all names, where they are defined, and their parameters."""

import importlib
import inspect
import unittest

FUNCTIONS = {
    "firstneed.base.words": ["is_integer(value)", "is_word(value)", "is_node(value)", "is_symbols(value)"],
    "firstneed.base.books": ["read_rules(*texts)"],
    "firstneed.base.programs": ["is_scheme(value)"],
    "firstneed.need.classes": [
        "parts_of(book)", "class_of(book, term)", "class_made(book, word, classes)",
                               "is_redex_made(book, word, classes)",
        "fires(book, rule, classes)", "is_class(book, value)", "is_result(book, term)", "result_classes(book)",
        "least_result(book, value)", "results_upto(book, size)", "result_paper(book)", "is_result_paper(book, value)",
        "is_closed_row(book, value)"],
    "firstneed.need.tables": ["is_state(book, value)", "is_table(book, value)", "is_closed(book, value)",
                              "is_below(one, other)", "anything(book)"],
    "firstneed.need.lines": [
        "is_lines(book, term, value)", "shown(book, term, at, fact)", "is_shown(book, term, at, fact, value)",
        "round_of(book, term, at, fact)", "is_way(book, term, fact, value)", "end_of(book, term, way)"],
    "firstneed.need.places": [
        "is_needed(book, term, at)", "needed_places(book, term)", "asked_places(book, term)", "next_place(book, term)",
        "strict_arguments(book, word)", "needed_paper(book, term, at)", "is_needed_paper(book, term, at, value)",
        "spared_paper(book, term, at)", "is_spared_paper(book, term, at, value)", "around(book, term, at)"],
    "firstneed.whole.led": [
        "entry_of(book, term, table=None, *, is_open=False)", "is_bad_entry(entry)", "does_cover(entry, other)",
        "is_rows(book, value, *, is_open=False)", "term_of(book, rows, *, is_open=False)",
        "rows_of(book, term, *, is_open=False)", "led_paper(book, *, is_open=False)",
        "is_led_paper(book, value, *, is_open=False)"],
}

CLASSES = {
    "firstneed.base.books.Book": [
        "__init__(self, symbols, rules=())", "redexes(self, term)", "rules_at(self, term, place)",
                                  "is_result(self, term)",
        "step(self, term, place, rule, *terms)", "is_step(self, one, place, rule, other)",
        "with_rule(self, pattern, sketch)", "without(self, rule)", "with_symbol(self, word, arity)",
        "with_sketch(self, rule, sketch)", "strong(self)", "renamed(self, names)", "knows_more(self, value)"],
    "firstneed.base.programs.Program": [
        "__init__(self, symbols, rules)", "full(self)", "strong(self)", "known(self, depth)", "does_fit(self, book)",
        "redexes(self, term)", "step(self, term, place, rule)", "is_result(self, term)", "ground(self, text)",
        "with_rule(self, left, right)", "without(self, rule)"],
    "firstneed.need.tables.Table": [
        "__init__(self, book, rows=None)", "is_least(self)", "of(self, rule)", "made(self, word, states)",
        "fired(self, word, states)", "state(self, term)", "states(self, term)", "assuming(self, rule, place, state)",
        "joined(self, other)", "shared(self, other)", "is_within(self, value)"],
    "firstneed.need.lines.Lines": [
        "__init__(self, book, term, lines)", "height_at(self, index)", "upto(self, index)", "trimmed(self)",
                                   "way(self)"],
    "firstneed.need.places.Need": ["__init__(self, book, term)", "holed(self, at)", "replaced(self, at, term)"],
    "firstneed.whole.led.Led": ["__init__(self, book, *, is_open=False)", "rows_with(self, entry)", "bad_rows(self)",
                                "bad_term(self)"],
}


class Interface(unittest.TestCase):
    def test_functions(self):
        for module, texts in FUNCTIONS.items():
            for text in texts:
                name = text.split("(")[0]
                function = getattr(importlib.import_module(module), name)
                self.assertEqual(function.__module__, module)
                self.assertEqual(name + str(inspect.signature(function)), text)

    def test_classes(self):
        for path, texts in CLASSES.items():
            module, name = path.rsplit(".", 1)
            found = getattr(importlib.import_module(module), name)
            self.assertEqual(found.__module__, module)
            for text in texts:
                method = vars(found)[text.split("(")[0]]
                self.assertEqual(method.__name__ + str(inspect.signature(method)), text)

    def test_class_methods(self):
        books, programs = (importlib.import_module(f"firstneed.base.{name}") for name in ("books", "programs"))
        self.assertEqual(str(inspect.signature(books.Book.read)), "(*lines)")
        self.assertEqual(str(inspect.signature(programs.Program.from_lines)), "(symbols, *lines)")
        for found, name in [(books.Book, "read"), (programs.Program, "from_lines")]:
            self.assertIsInstance(vars(found)[name], classmethod)


if __name__ == "__main__":
    unittest.main()
