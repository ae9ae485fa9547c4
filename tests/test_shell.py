"""[15.2], [15.3]: a shell."""

import random
import unittest

from firstneed.base.books import Book
from firstneed.errors import InvalidBook, InvalidOperation, TooMany
from firstneed.need.classes import class_of
from firstneed.need.places import asked_places, needed_places, next_place, strict_arguments
from firstneed.need.tables import Table
from firstneed.text import commands
from firstneed.text.shell import Shell
from firstneed.text.texts import read_numbers, write_numbers, write_state
from firstneed.use.looks import has_looks
from firstneed.whole.led import Led
from tests.helper import all_kinds, chain, raised
from tests.samples import COND, GUS, LARGE, PLUS, SEQ, SPECIAL, chance_books, chance_term, no_books, term

PARSE = "error ParseError"
BOOKS = chance_books(171, 40)
WIDE = Book.read("symbols a 0 b 0 c 0 d 0 e 0 f 3 g 1 z 0", "a => a", "f(a, g(g(g(_))), _) => a",
                 "f(a, _, g(g(g(_)))) => a")


class Commands(unittest.TestCase):
    def check(self, book, command, answer, behind=None):
        """One command on a new shell, its answer, and the book behind it, if it is another one."""
        shell = Shell(book)
        self.assertEqual([shell.run(command), shell.book, shell.answers],
                         [answer, book if behind is None else behind, ((command, answer),)], command)

    def check_all(self, book, commands_told, answer):
        for command in commands_told:
            self.check(book, command, answer)

    def test_rule(self):
        self.check(SEQ, "rule a => b", "ok", SEQ.with_rule(term("a"), term("b")))
        self.check(SEQ, "rule f(b, f(_, _)) => f(_, a)", "ok", SEQ.with_rule(term("f(b, f(_, _))"), term("f(_, a)")))
        self.check_all(SEQ, ["rule f(a, _) => a", "rule h => a", "rule a => h", "rule _ => a", "rule # => a",
                             "rule a => #",
                             "rule f(a) => a", "rule a => " + chain(8)], "error InvalidBook")
        self.check_all(SEQ, ["rule", "rule ", "rule a", "rule a =>", "rule a => ", "rule a=>b", "rule  a => b",
                             "rule a => b ",
                             "rule a => b => a", "rule a => b\n", "rule f(f) => a", "rule a => f(a", "rule A => b",
                             "rulea => b", "Rule a => b", "rule => b"], PARSE)

    def test_drop(self):
        self.check(SEQ, "drop 0", "ok", SEQ.without(0))
        self.check(SEQ, "drop 2", "ok", SEQ.without(2))
        self.check_all(SEQ, ["drop 3", "drop -1", "drop 7", "drop -7", "drop " + "9" * 60, "drop -" + "9" * 60],
                       "error InvalidNumber")
        self.check_all(SEQ, ["drop", "drop ", "drop  0", "drop 0 ", "drop 0 1", "drop 00", "drop 01", "drop -0",
                             "drop +0",
                             "drop 0.0", "drop a", "drop True", "drop 1" + "0" * 60, "drop -1" + "0" * 60, "drop --1",
                             "drop -",
                             "drop 0\n", "drop0", "drop 0x0", "drop 1_0"], PARSE)

    def test_symbol(self):
        self.check(SEQ, "symbol h 3", "ok", SEQ.with_symbol("h", 3))
        self.check(SEQ, "symbol f 2", "ok", SEQ)
        self.check_all(SEQ, ["symbol f 1", "symbol h 4", "symbol h -1", "symbol A 0", "symbol _ 0",
                             "symbol abcdefghi 0",
                             "symbol 0 0", "symbol h " + "9" * 60], "error InvalidBook")
        self.check_all(SEQ, ["symbol", "symbol ", "symbol h", "symbol h ", "symbol  0", "symbol h  0", "symbol h 0 ",
                             "symbol h 0 0", "symbol h 00", "symbol h +1", "symbol h x", "symbol h -0",
                             "symbol h 1" + "0" * 60,
                             "symbol A x", " symbol h 0", "symbol\nh 0"], PARSE)
        full = Book({letter: 0 for letter in "abcdefgh"})
        self.check(full, "symbol i 0", "error InvalidBook")

    def test_sketch(self):
        self.check(SEQ, "sketch 0 b", "ok", SEQ.with_sketch(0, term("b")))
        self.check(SEQ, "sketch 2 f(_, f(a, b))", "ok", SEQ.with_sketch(2, term("f(_, f(a, b))")))
        self.check_all(SEQ, ["sketch 3 a", "sketch -1 a", "sketch 9 h"], "error InvalidNumber")
        self.check_all(SEQ, ["sketch 0 h", "sketch 0 #", "sketch 0 f(a)", "sketch 0 " + chain(8)], "error InvalidBook")
        self.check_all(SEQ, ["sketch 0 f(f, a)"], "error InvalidTerm")
        self.check_all(SEQ, ["sketch", "sketch ", "sketch 0", "sketch 0 ", "sketch a", "sketch  a", "sketch 0  a",
                             "sketch 0 a ",
                             "sketch 00 a", "sketch -0 a", "sketch 0 f(a", "sketch 0 f(a,b)", "sketch x a",
                             "sketch a 0",
                             "sketch 0 a b", "sketch 1" + "0" * 60 + " a", "sketch 0 " + "f(" * 4000], PARSE)

    def test_book(self):
        for book in BOOKS:
            self.check(book, "book", "\n".join(book.lines))
        self.check_all(SEQ, ["book ", "book a", "book  ", " book", "book\n", "Book", "books"], PARSE)

    def test_terms(self):
        chance = random.Random(172)
        for book in BOOKS:
            for leaves in [(), ("_",), ("_", "#")]:
                one = chance_term(chance, book.symbols, 9, leaves=leaves)
                self.check(book, f"class {one.text}", write_numbers(class_of(book, one)))
                self.check(book, f"state {one.text}", write_state(Table(book).state(one)))
                if one.lost:
                    self.check_all(book, [f"{word} {one.text}" for word in ("needed", "asked", "next")],
                                   "error InvalidTerm")
                    continue
                self.check(book, f"needed {one.text}", write_numbers(needed_places(book, one)))
                self.check(book, f"asked {one.text}", write_numbers(asked_places(book, one)))
                place = next_place(book, one)
                self.check(book, f"next {one.text}", "none" if place is None else str(place))
        self.check(SEQ, "asked f(a, f(b, b))", "0")
        self.check(SEQ, "asked f(b, b)", "-")
        self.check(SEQ, "next f(b, b)", "none")
        self.check(SEQ, "state f(#, a)", "- | none")
        for word in ("class", "state", "needed", "asked", "next"):
            self.check_all(SEQ, [f"{word} {text}" for text in ("h", "f(a)", "f(f, a)", "f(a, f)", "g(a)")],
                           "error InvalidTerm")
            self.check_all(SEQ, [word, f"{word} ", f"{word}  a", f"{word} a ", f"{word} a b", f"{word} f(a,b)",
                                 f"{word} f(a, b", f"{word} A", f"{word} {chain(41)}", f"{word}\na", f"{word} a\n",
                                 f"{word}(a)",
                                 f" {word} a", word.upper() + " a"], PARSE)

    def test_strict(self):
        for book in BOOKS:
            for word in book.symbols:
                self.check(book, f"strict {word}", write_numbers(strict_arguments(book, word)))
        self.check_all(SEQ, ["strict h", "strict F", "strict _", "strict f(a)", "strict 0", "strict f\n"],
                       "error UnknownWord")
        self.check_all(SEQ, ["strict", "strict ", "strict f g", "strict  f", "strict f ", "strict  "], PARSE)

    def test_led_and_open(self):
        seen = {}
        for book in BOOKS + SPECIAL:
            for word in ("led", "open"):
                led = Led(book, is_open=word == "open")
                answer = "yes" if led.is_led else "no: " + led.bad_term().text
                self.check(book, word, answer)
                seen[(word, answer[:3])] = True
        self.assertEqual(len(seen), 4)
        self.check(GUS, "led", "no: f(g, g, g)")
        half = Book.read("symbols a 0 b 0 c 0 f 3 g 0", "f(b, _, _) => a", "f(_, a, c) => c", "g => a")
        self.check(half, "led", "yes")
        self.check(half, "open", "no: " + Led(half, is_open=True).bad_term().text)
        self.check_all(SEQ, ["led ", "led f", "open ", "open f", "LED", "opened"], PARSE)

    def test_large_bad_terms(self):
        kept = commands.Led

        class Large(Led):
            def bad_term(self):
                raise TooMany(40)
        try:
            commands.Led = Large
            for word in ("led", "open"):
                self.check(GUS, word, "error TooMany")
        finally:
            commands.Led = kept

    def test_looks(self):
        for book in BOOKS:
            for word in book.symbols:
                self.check(book, f"looks {word}", "yes" if has_looks(book, word) else "no")
        self.check(SEQ, "looks f", "yes")
        self.check(GUS, "looks f", "no")
        self.check(WIDE, "looks f", "no")
        self.check_all(SEQ, ["looks h", "looks _", "looks F"], "error UnknownWord")
        self.check_all(SEQ, ["looks", "looks ", "looks f f", "looks f ", "looks  f"], PARSE)

    def test_unknown_words(self):
        self.check_all(SEQ, ["", " ", "\n", "a", "f(a, b)", "run", "rules", "word a", "none", "ok", "error", "yes",
                             "Led", "#",
                             "x" * 9000, "led\nled", "needed\tf(a, b)", "answers", "undo", "__init__", "0"], PARSE)


class Shells(unittest.TestCase):
    def test_one_behind_the_other(self):
        shell = Shell(SEQ)
        told = ["symbol h 1", "rule h(a) => g", "drop 0", "drop 9", "sketch 0 g", "book", "nothing", "strict f"]
        answers = ("ok", "ok", "ok", "error InvalidNumber", "ok",
                   "symbols a 0 b 0 f 2 g 0 h 1\nf(b, a) => g\ng => _\nh(a) => g", PARSE, "0 1")
        self.assertEqual(shell.run_all(*told), answers)
        self.assertEqual(shell.answers, tuple(zip(told, answers)))
        self.assertEqual(shell.book, Book.read("symbols a 0 b 0 f 2 g 0 h 1", "f(b, a) => g", "g => _", "h(a) => g"))
        self.assertEqual([shell.run("drop 0"), shell.answers[-1], len(shell.answers)], ["ok", ("drop 0", "ok"), 9])
        self.assertEqual([shell.run_all(), len(shell.answers)], [(), 9])

    def test_refused_commands_change_nothing(self):
        shell = Shell(SEQ)
        for command in ["rule f(a, _) => a", "rule a", "drop 3", "drop x", "symbol f 1", "symbol f", "sketch 0 h",
                        "sketch 9 a",
                        "sketch 0 f(f, f)", "needed h", "strict h", "led x"]:
            self.assertEqual([shell.run(command)[:6], shell.book], ["error ", SEQ])
        self.assertEqual(len(shell.answers), 12)

    def test_no_strings(self):
        shell = Shell(SEQ)
        shell.run("drop 0")
        before = (shell.book, shell.answers)
        for value in [one for one in all_kinds() if not isinstance(one, str)] + [SEQ, shell, ("led",), ["led"]]:
            self.assertIs(type(raised(shell.run, value)), InvalidOperation)
            for told in [(value,), ("drop 0", value), (value, "drop 0"), ("drop 0", value, "led")]:
                self.assertIs(type(raised(shell.run_all, *told)), InvalidOperation)
            self.assertEqual((shell.book, shell.answers), before)

    def test_books(self):
        for value in no_books():
            self.assertIs(type(raised(Shell, value)), InvalidBook)
        self.assertEqual([Shell(SEQ).book, Shell(SEQ).answers], [SEQ, ()])

    def test_nothing_is_shared(self):
        one, other = Shell(COND), Shell(COND)
        one.run("drop 0")
        self.assertEqual([other.book, other.answers, COND], [COND, (), Shell(COND).book])
        answers = one.answers
        one.run("book")
        self.assertEqual([len(answers), len(one.answers)], [1, 2])

    def test_interface(self):
        for name in ("run", "run_all"):
            self.assertIn(name, vars(Shell))
        with self.assertRaises(TypeError):
            iter(Shell(SEQ))

    def test_any_string_has_an_answer(self):
        shell = Shell(LARGE)
        words = ["rule", "drop", "symbol", "sketch", "book", "class", "state", "needed", "asked", "strict", "next",
                 "looks"]
        for rest in [one for one in all_kinds() if isinstance(one, str)]:
            for word in words:
                self.assertIsInstance(shell.run(f"{word} {rest}"), str)
        chance = random.Random(173)
        letters = "abf(),_# =>019-\n"
        for _ in range(300):
            rest = "".join(chance.choice(letters) for _ in range(chance.randint(0, 9)))
            self.assertIsInstance(shell.run(f"{chance.choice(words)} {rest}"), str)
        self.assertEqual(read_numbers(Shell(PLUS.full()).run("strict add")), (0,))


if __name__ == "__main__":
    unittest.main()
