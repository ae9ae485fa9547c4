"""[15.1]: texts of values."""

import random
import unittest

from firstneed.base.programs import Program
from firstneed.errors import InvalidOperation, InvalidProgram, InvalidRows, InvalidTable, ParseError
from firstneed.need.classes import result_classes
from firstneed.need.tables import Table, anything
from firstneed.text.texts import (read_numbers, read_program, read_rows, read_state, read_table, write_numbers,
                                  write_program, write_rows, write_state, write_table)
from firstneed.whole.led import Led, rows_of
from tests.helper import all_kinds, raised
from tests.samples import GUS, PLUS, SEQ, chance_books, chance_term, term
from tests.test_known import CHANCE, DEEP, SHUT

BIG = 10 ** 60 - 1
HUGE = 10 ** 60
BOOKS = chance_books(161, 40)
NUMBERS = [((), "-"), ((0,), "0"), ((0, 2, 3), "0 2 3"), ((3, 2, 0), "3 2 0"), ((7, 7), "7 7"), ((10, 100), "10 100"),
           ((BIG, 0), "9" * 60 + " 0")]
NO_NUMBERS = ["", " ", "-1", "+1", "01", "00", "0 ", " 0", "0  1", "0 -", "- 0", "--", "-0", "1.0", "1,2", "a", "none",
              "0\n", "\n0", "0\n1", "0\t1", "1_0", "0x1", "1e3", "1" + "0" * 60, "1" * 9000, "0 " + "1" * 61, "0 01",
              "_",
              "0 1 ", "(0,)", "True", " -", "- "]
STATES = [(((), ()), "- | none"), (((0, 1), ((), (0, 2))), "0 1 | -; 0 2"), (((), ((),)), "- | -"),
          (((3,), ()), "3 | none"), (((), ((0,), (0, 1), (1,))), "- | 0; 0 1; 1"),
          (((BIG,), ((BIG,),)), f"{BIG} | {BIG}")]
NO_STATES = ["", "-", "none", "0 1", "- |none", "-| none", "-|none", "- | ", " | none", "| none", "- | none ",
             " - | none",
             "-  | none", "- |  none", "- | None", "- | none; 0", "- | 0; none", "0 0 | none", "1 0 | none", "- | 0; -",
             "- | 0; 0", "- | -; -", "- | 1; 0", "- | 1 0", "- | 0 0", "- | 0;1", "- | 0 ; 1", "- | 0;  1", "- | 0; 1;",
             "- | 0; 1; ", "- | ; 0", "- | 0 | 1", "- | 0 | none", "00 | none", "-1 | none", "+1 | none", "- | 01",
             "- | none\n", "- \n| none", f"{HUGE} | none", f"- | {HUGE}", "a | none", "0, 1 | none", "- | - 0",
             "none | -",
             "none | none", "- - | none", "0 - | none", "((), ())"]
TABLES = [({}, "none"), ({(2, 0): ((0, 1), ((),))}, "2 0: 0 1 | -"),
          ({(0, 0): ((), ()), (0, 1): ((1,), ((0,), (1,))), (10, 2): ((), ((),)), (2, BIG): ((), ())},
           f"0 0: - | none\n0 1: 1 | 0; 1\n2 {BIG}: - | none\n10 2: - | -")]
ROWS = [((("a", ()),), "a"), ((("a", ()), ("f", (0, 0))), "a\nf 0 0"), ((("_", ()), ("#", ()), ("abcdefgh", (1, 0, 1))),
                                                                   "_\n#\nabcdefgh 1 0 1"),
        # no more is asked of rows than their form
        ((("a", ()), ("_", (0,)), ("#", (0, 1)), ("f", (2,)), ("f", (2, 2, 2))), "a\n_ 0\n# 0 1\nf 2\nf 2 2 2")]


def no_tuples():
    """Values of other kinds, but for those that are texts."""
    return [value for value in all_kinds() if not isinstance(value, str)] + [SEQ, PLUS, Table(SEQ), Led(SEQ)]


class Reads:
    """What holds for each kind of text."""

    def check_values(self, write, read, pairs):
        for value, text in pairs:
            self.assertEqual([write(value), read(text)], [text, value])

    def check_texts(self, read, texts, line=None):
        for text in texts:
            error = raised(read, text)
            self.assertEqual((type(error), error.line), (ParseError, line), text)

    def check_kinds(self, read):
        for value in no_tuples():
            error = raised(read, value)
            self.assertEqual((type(error), error.line), (ParseError, None))


class Numbers(unittest.TestCase, Reads):
    def test_texts(self):
        self.check_values(write_numbers, read_numbers, NUMBERS)
        for book in BOOKS:
            for row in result_classes(book):
                self.assertEqual(read_numbers(write_numbers(row)), row)

    def test_of_none(self):
        self.check_texts(read_numbers, NO_NUMBERS + [value for value in all_kinds() if isinstance(value, str)
                                                     and value != "0"])
        self.check_kinds(read_numbers)

    def test_no_numbers(self):
        wrong = [value for value in all_kinds() if value != ()]
        for value in [*wrong, [0, 1], (0, -1), (True,), (0, False), (None,), ("0",), ((0,),), (0, [1]), (HUGE,),
                      (0, -HUGE),
                      {0: 1}, "0 1", range(3), (0, term("a"))]:
            self.assertIs(type(raised(write_numbers, value)), InvalidOperation)


class States(unittest.TestCase, Reads):
    def test_texts(self):
        self.check_values(write_state, read_state, STATES)
        for book in BOOKS:
            state = anything(book)
            self.assertEqual(read_state(write_state(state)), state)

    def test_of_none(self):
        self.check_texts(read_state, NO_STATES + [value for value in all_kinds() if isinstance(value, str)])
        self.check_kinds(read_state)

    def test_no_states(self):
        for value in [*all_kinds(), ((),), ((), (), ()), [(), ()], ([], ()), ((), []), ((1, 0), ()), ((0, 0), ()),
                      ((), ((1,), (0,))), ((), ((0,), (0,))), ((), ((1, 0),)), ((), ((0, 0),)), ((), (0,)),
                      ((True,), ()),
                      ((), ((False,),)), ((-1,), ()), ((), ((-1,),)), ((HUGE,), ()), ((), ((HUGE,),)), (0, ()), ((), 0),
                      (("0",), ()), ((), ("0",)), ("", ""), ("-", "none"), ((), ([],)), ((), None), (None, ()),
                      ((), {}), ((), ((), 0))]:
            if value != ():
                self.assertIs(type(raised(write_state, value)), InvalidTable, value)
        self.assertIs(type(raised(write_state, ())), InvalidTable)


class Tables(unittest.TestCase, Reads):
    def test_texts(self):
        for table, text in TABLES:
            self.assertEqual([write_table(table), read_table(text), list(read_table(text))],
                             [text, table, sorted(table)])
            backwards = {key: table[key] for key in list(table)[::-1]}
            self.assertEqual(write_table(backwards), text)
        for book in BOOKS:
            table = Table(book).mapping
            self.assertEqual(read_table(write_table(table)), table)

    def test_the_first_wrong_line(self):
        good = ["0 0: - | none", "0 1: 1 | 0; 1", "10 2: - | -"]
        self.assertEqual(len(read_table("\n".join(good))), 3)
        for line in ["", "none", "0 3 - | -", "0 3:- | -", "0 3 : - | -", "03: - | -", "0  3: - | -", "0: - | -",
                     "0 1 2: - | -", "-: - | -", "0 -: - | -", " 0 3: - | -", "0 3: - | - ", "0 3: - |", "0 3:  - | -",
                     "00 3: - | -", "0 03: - | -", "0 -3: - | -", "0 +3: - | -", f"0 {HUGE}: - | -", "0 3: 1 0 | -",
                     "a b: - | -", "0 3: - | 1; 0", "0,3: - | -", "0 3: - | -: - | -", "0 3; - | -", "0 3: 0 3: - | -"]:
            for at in range(4):
                self.check_texts(read_table, ["\n".join([*good[:at], line, *good[at:]])], at)
        self.check_texts(read_table, ["", "\n", "None", " none", "none ", "-"], 0)
        self.check_texts(read_table, ["none\n", "none\nnone", "\n".join(["none", *good])], 0)
        self.check_texts(read_table, ["\n".join([*good, ""])], 3)
        self.check_texts(read_table, ["\n" + "\n".join(good)], 0)
        self.check_kinds(read_table)

    def test_lines_out_of_order(self):
        lines = ["0 0: - | none", "0 1: - | none", "1 0: - | none"]
        for order, wrong in [((0, 0), 1), ((1, 0), 1), ((0, 2, 1), 2), ((2, 0, 1), 1), ((0, 1, 1, 2), 2),
                             ((0, 1, 2, 2), 3)]:
            self.check_texts(read_table, ["\n".join([lines[at] for at in order])], wrong)
        self.check_texts(read_table, ["\n".join([lines[1], lines[0], "none"])], 1)
        self.check_texts(read_table, ["\n".join([lines[0], "none", lines[0]])], 1)
        self.check_texts(read_table, ["9 0: - | -\n10 0: - | -\n9 1: - | -"], 2)

    def test_no_tables(self):
        state = ((), ())
        wrong = [value for value in all_kinds() if value != {}]
        for value in [*wrong, Table(SEQ), {(0, 0): None}, {(0, 0): ((1, 0), ())}, {(0,): state}, {(0, 0, 0): state},
                      {0: state}, {"0 0": state}, {(0, True): state}, {(False, 0): state}, {(0, -1): state},
                      {(HUGE, 0): state}, {(0, 0): state, (0, "1"): state}, {(0, 0): state, None: state},
                      {(0, 0): state, (): state}, {(0, 0): [(), ()]}, [((0, 0), state)], (((0, 0), state),)]:
            self.assertIs(type(raised(write_table, value)), InvalidTable, value)

    def test_what_is_handed_out_can_be_changed(self):
        text = TABLES[1][1]
        read_table(text).clear()
        table = {(2, 0): ((0, 1), ((),))}
        self.assertEqual([read_table(text), write_table(table), table], [table, text, {(2, 0): ((0, 1), ((),))}])


class RowTexts(unittest.TestCase, Reads):
    def test_texts(self):
        self.check_values(write_rows, read_rows, ROWS)
        chance = random.Random(162)
        for book in BOOKS:
            rows = rows_of(book, chance_term(chance, book.symbols, 20, leaves=("_",)), is_open=True)
            self.assertEqual(read_rows(write_rows(rows)), rows)
        long = (("a", ()), *[("f", (at, 0)) for at in range(5000)])
        self.assertEqual(read_rows(write_rows(long)), long)

    def test_the_first_wrong_line(self):
        good = ["a", "f 0 0", "#"]
        self.assertEqual(len(read_rows("\n".join(good))), 3)
        for line in ["", " ", "A", "abcdefghi", "a ", " a", "f  0", "f 00", "f 01", "f -0", "f +0", "f -1", "f 3",
                     "f 0 0 0 0",
                     "f 0,0", "f(a)", "0", "0 f", "f f", "f -", "__", "##", "a1", "f _", f"f {HUGE}", "f\t0", "f 0 ",
                     "%"]:
            for at in range(1, 4):
                self.check_texts(read_rows, ["\n".join([*good[:at], line, *good[at:]])], at)
        self.check_texts(read_rows, ["", "\n", "f 0", "a 0", "-", "none "], 0)
        self.check_texts(read_rows, ["a\n", "a\nf 1", "a\nf 0 1", "a\n\nb"], 1)
        self.check_texts(read_rows, ["a\nb\nf 2", "a\nb\nf 0 0 2", "a\nf 0\n\n"], 2)
        self.check_kinds(read_rows)
        self.assertEqual(read_rows("none"), (("none", ()),))

    def test_no_rows(self):
        for value in [*all_kinds(), (), [("a", ())], (["a", ()],), (("a", []),), (("a",),), (("a", (), ()),),
                      (("A", ()),),
                      (("", ()),), (("abcdefghi", ()),), ((None, ()),), ((0, ()),), (("a", (0,)),),
                      (("a", ()), ("f", (1,))),
                      (("a", ()), ("f", (-1,))), (("a", ()), ("f", (False,))), (("a", ()), ("f", (0, 0, 0, 0))),
                      (("a", ()), ("f", ("0",))), (("a", ()), ("f", 0)), (("a", ()), None), (("a", ()), ("__", ())),
                      (("a", ()), ("f", (HUGE,))), (("a", None),), ((("a",), ()),), (([], ()),)]:
            self.assertIs(type(raised(write_rows, value)), InvalidRows, value)


class Programs(unittest.TestCase, Reads):
    def test_texts(self):
        self.assertEqual(write_program(PLUS),
                         "symbols add 2 dup 1 o 0 s 1\nadd(o, X) => X\nadd(s(X), Y) => s(add(X, Y))\n"
                                              "dup(X) => add(X, X)")
        for program in [PLUS, SHUT, DEEP, *CHANCE]:
            text = write_program(program)
            self.assertEqual(text.split("\n")[1:], list(program.lines))
            self.assertEqual(read_program(text), program)
            self.assertEqual(write_program(read_program(text)), text)

    def test_the_first_wrong_line(self):
        lines = write_program(PLUS).split("\n")
        for wrong in ["", "a => b", "symbols", "symbols ", "symbols a", "symbols a 4", "symbols b 0 a 0", "symbols f 1",
                      "Symbols a 0", "symbols a 0 a 0", "symbols a 0 ", " symbols a 0", "symbols  a 0", "symbols a 00",
                      "symbols A 0", "symbols a -1", "symbols " + " ".join(f"{letter} 0" for letter in "abcdefghi")]:
            self.check_texts(read_program, ["\n".join([wrong, *lines[1:]])], 0)
        self.check_texts(read_program, ["", "\n".join(lines[1:])], 0)
        for wrong in ["", "add(o, X)", "add(o,X) => X", "add(o, X) =>X", "add(o, X) => X ", " add(o, X) => X", "=> X",
                      "add(o, X) => ", "add(o, X) => X => X", "add(o, x(X) => X", "add(o, _) => o", "add(o, #) => o",
                      "add(o, AB) => o", "add(o, X(o)) => X", "add(add, X) => X", "add(o, X) = X", lines[0]]:
            for at in range(1, 4):
                self.check_texts(read_program, ["\n".join([*lines[:at], wrong, *lines[at:]])], at)
        self.check_texts(read_program, ["\n".join([*lines, ""])], 4)
        self.check_texts(read_program, ["\n".join([lines[0], "", "X"])], 1)
        self.check_kinds(read_program)

    def test_lines_of_no_program(self):
        first = "symbols a 0 f 2 g 1"
        for lines in [(), ("X => a",), ("f(X, X) => a",), ("f(X, Y) => Z",), ("f(X, Y) => a",) * 2, ("h => a",),
                      ("a => f(a)",),
                      ("f(X, Y) => a", "f(Y, X) => a"), tuple(f"f(a, {'g(' * at}X{')' * at}) => a" for at in range(7)),
                      ("f(a, f(a, f(a, f(a, a)))) => a",), ("a => f(a, f(a, f(a, f(a, a))))",)]:
            self.assertIs(type(raised(read_program, "\n".join([first, *lines]))), InvalidProgram, lines)
        # A line that is none is told ahead of what makes no program, wherever it stands.
        error = raised(read_program, "\n".join([first, "h => a", "h =>"]))
        self.assertEqual((type(error), error.line), (ParseError, 2))

    def test_no_programs(self):
        for value in [*all_kinds(), SEQ, GUS, PLUS.rules, PLUS.lines, PLUS.full(), (PLUS,)]:
            self.assertIs(type(raised(write_program, value)), InvalidProgram)
        self.assertIsInstance(read_program(write_program(PLUS)), Program)


if __name__ == "__main__":
    unittest.main()
