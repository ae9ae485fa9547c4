"""How numbers, states and rows are read from their texts; None is told for texts that are none."""

from firstneed.base.words import is_index, is_leaf, is_word
from firstneed.need.forms import is_state_form

EMPTY = "-"
NONE = "none"
MAX_DIGITS = 60
MAX_USES = 3


def number_told(text):
    """The integer of at least 0 that is written like this, or None."""
    if not 1 <= len(text) <= MAX_DIGITS or not all(["0" <= letter <= "9" for letter in text]):
        return None
    return int(text) if text[0] != "0" or text == "0" else None


def integer_told(text):
    """The integer that is written like this, or None."""
    number = number_told(text.removeprefix("-"))
    if number is None or not text.startswith("-"):
        return number
    return -number if number > 0 else None


def numbers_told(text):
    """The tuple of integers with this text, or None."""
    if text == EMPTY:
        return ()
    numbers = [number_told(item) for item in text.split(" ")]
    return None if None in numbers else tuple(numbers)


def state_told(text):
    """The state with this text, or None."""
    parts, _, classes = text.partition(" | ")
    rows = [] if classes == NONE else [numbers_told(row) for row in classes.split("; ")]
    state = (numbers_told(parts), tuple(rows))
    return state if is_state_form(state) else None


def key_told(text):
    """The pair of integers with this text, or None."""
    key = numbers_told(text)
    return key if key is not None and len(key) == 2 else None


def line_told(line):
    """The pair of a pair of integers and of its state with this line, or None."""
    before, _, behind = line.partition(": ")
    key, state = key_told(before), state_told(behind)
    return None if key is None or state is None else (key, state)


def is_row_form(value, index):
    """Whether the value has the form of a row that stands at this index, whatever the symbols are."""
    if not isinstance(value, tuple) or len(value) != 2:
        return False
    sign, uses = value
    if not is_word(sign) and not is_leaf(sign):
        return False
    return isinstance(uses, tuple) and len(uses) <= MAX_USES and all([is_index(use, index) for use in uses])


def row_told(line, index):
    """The row at this index with this line, or None."""
    sign, *items = line.split(" ")
    row = (sign, tuple([number_told(item) for item in items]))
    return row if is_row_form(row, index) else None
