"""Texts of values: each value has just one, from which it is read."""

from firstneed.base.programs import Program, check_program, told_rule
from firstneed.base.spelling import symbols_line, told_symbols
from firstneed.errors import InvalidOperation, InvalidRows, InvalidTable, ParseError
from firstneed.need.forms import are_numbers, is_state_form
from firstneed.text.reading import EMPTY, NONE, is_row_form, line_told, numbers_told, row_told, state_told


def check_text(text):
    """Refuses what is no string."""
    if not isinstance(text, str):
        raise ParseError(None)


def numbers_text(numbers):
    """The text of a tuple of integers."""
    return " ".join([str(number) for number in numbers]) if numbers else EMPTY


def state_text(state):
    """The text of a state."""
    rows = [numbers_text(row) for row in state[1]]
    classes = "; ".join(rows) if rows else NONE
    return f"{numbers_text(state[0])} | {classes}"


def write_numbers(numbers):
    """The text of a tuple of integers of at least 0."""
    if not are_numbers(numbers):
        raise InvalidOperation("this is no tuple of integers of at least 0")
    return numbers_text(numbers)


def read_numbers(text):
    """The tuple of integers with this text."""
    check_text(text)
    numbers = numbers_told(text)
    if numbers is None:
        raise ParseError(None)
    return numbers


def write_state(state):
    """The text of a state."""
    if not is_state_form(state):
        raise InvalidTable("this has not the form of a state")
    return state_text(state)


def read_state(text):
    """The state with this text."""
    check_text(text)
    state = state_told(text)
    if state is None:
        raise ParseError(None)
    return state


def is_key(value):
    """Whether the value is a pair of integers of at least 0."""
    return are_numbers(value) and len(value) == 2


def write_table(table):
    """The text of a table."""
    if not isinstance(table, dict) or not all([is_key(key) and is_state_form(table[key]) for key in table]):
        raise InvalidTable("this has not the form of a table")
    lines = [f"{numbers_text(key)}: {state_text(table[key])}" for key in sorted(table)]
    return "\n".join(lines) if lines else NONE


def read_table(text):
    """The table with this text."""
    check_text(text)
    entries = []
    lines = [] if text == NONE else text.split("\n")
    for index, line in enumerate(lines):
        entry = line_told(line)
        if entry is None or (entries and entry[0] <= entries[-1][0]):
            raise ParseError(index)
        entries.append(entry)
    return dict(entries)


def write_rows(rows):
    """The text of rows."""
    if not isinstance(rows, tuple) or len(rows) == 0:
        raise InvalidRows("this is no tuple of rows")
    if not all([is_row_form(row, index) for index, row in enumerate(rows)]):
        raise InvalidRows("one of these has not the form of a row")
    lines = [" ".join([sign, *[str(use) for use in uses]]) for sign, uses in rows]
    return "\n".join(lines)


def read_rows(text):
    """The rows with this text."""
    check_text(text)
    rows = []
    for index, line in enumerate(text.split("\n")):
        row = row_told(line, index)
        if row is None:
            raise ParseError(index)
        rows.append(row)
    return tuple(rows)


def write_program(program):
    """The text of a program."""
    check_program(program)
    return "\n".join([symbols_line(program.symbols), *program.lines])


def read_program(text):
    """The program with this text."""
    check_text(text)
    first, *lines = text.split("\n")
    symbols = told_symbols(first)
    if symbols is None:
        raise ParseError(0)
    return Program(symbols, tuple([told_rule(line, index) for index, line in enumerate(lines, start=1)]))
