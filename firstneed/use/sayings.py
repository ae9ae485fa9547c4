"""Sayings: what can be told of a book, and hold or not."""

from firstneed.base.checks import is_term_of
from firstneed.base.spelling import told_term
from firstneed.base.words import is_index, is_word
from firstneed.need.places import is_needed, strict_arguments
from firstneed.use.looks import has_looks
from firstneed.whole.led import Led

SIZES = {"needed": 3, "spared": 3, "led": 1, "open": 1, "strict": 3, "looks": 2}


def is_saying(book, value):
    """Whether the value is a saying about terms and symbols of the book."""
    if not isinstance(value, tuple) or len(value) == 0 or not isinstance(value[0], str):
        return False
    if SIZES.get(value[0]) != len(value):
        return False
    if value[0] in ("needed", "spared"):
        return is_spot(book, value[1], value[2])
    if value[0] == "strict":
        return is_symbol(book, value[1]) and is_index(value[2], book.symbols[value[1]])
    return value[0] != "looks" or is_symbol(book, value[1])


def is_symbol(book, value):
    """Whether the value is a symbol of the book."""
    return is_word(value) and value in book.symbols


def is_spot(book, text, at):
    """Whether these are the text of a term, which can have leaves for anything, and a place of it."""
    term = told_term(text)
    return is_term_of(term, book.symbols) and not term.lost and is_index(at, len(term))


def does_hold_in(book, saying):
    """Whether a saying holds of the book."""
    kind = saying[0]
    if kind in ("needed", "spared"):
        return is_needed(book, told_term(saying[1]), saying[2]) == (kind == "needed")
    if kind == "strict":
        return saying[2] in strict_arguments(book, saying[1])
    if kind == "looks":
        return has_looks(book, saying[1])
    return Led(book, is_open=kind == "open").is_led
