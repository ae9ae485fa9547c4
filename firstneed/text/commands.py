"""The commands of a shell: each is passed a book and what belongs to it, or None, and tells a book and an answer."""

from firstneed.base.books import read_rules
from firstneed.base.terms import Term
from firstneed.errors import ParseError
from firstneed.need.classes import class_of
from firstneed.need.places import asked_places, needed_places, next_place, strict_arguments
from firstneed.need.tables import Table
from firstneed.text.reading import integer_told
from firstneed.text.texts import write_numbers, write_state
from firstneed.use.looks import has_looks
from firstneed.whole.led import Led

DONE = "ok"


def items_in(rest, count):
    """The items of what belongs to a command, which are just so many."""
    items = [] if rest is None else rest.split(" ")
    if len(items) != count or "" in items:
        raise ParseError(None)
    return items


def number_in(text):
    """The integer with this text."""
    number = integer_told(text)
    if number is None:
        raise ParseError(None)
    return number


def put_rule(book, rest):
    """Adds a rule."""
    pattern, sketch = read_rules(rest)[0]
    return (book.with_rule(pattern, sketch), DONE)


def drop_rule(book, rest):
    """Takes a rule away."""
    items = items_in(rest, 1)
    return (book.without(number_in(items[0])), DONE)


def put_symbol(book, rest):
    """Adds a symbol."""
    word, arity = items_in(rest, 2)
    return (book.with_symbol(word, number_in(arity)), DONE)


def put_sketch(book, rest):
    """Puts another sketch in."""
    if rest is None:
        raise ParseError(None)
    rule, _, text = rest.partition(" ")
    return (book.with_sketch(number_in(rule), Term.read(text)), DONE)


def tell_book(book, rest):
    """Tells the lines of the book."""
    items_in(rest, 0)
    return (book, "\n".join(list(book.lines)))


def tell_class(book, rest):
    """Tells the class of a term."""
    return (book, write_numbers(class_of(book, Term.read(rest))))


def tell_state(book, rest):
    """Tells the state of a term."""
    return (book, write_state(Table(book).state(Term.read(rest))))


def tell_needed(book, rest):
    """Tells the needed places of a term."""
    return (book, write_numbers(needed_places(book, Term.read(rest))))


def tell_asked(book, rest):
    """Tells the asked places of a term."""
    return (book, write_numbers(asked_places(book, Term.read(rest))))


def tell_strict(book, rest):
    """Tells the strict arguments of a symbol."""
    return (book, write_numbers(strict_arguments(book, items_in(rest, 1)[0])))


def tell_next(book, rest):
    """Tells the next place of a term."""
    place = next_place(book, Term.read(rest))
    return (book, "none" if place is None else str(place))


def tell_led(book, rest):
    """Tells whether the book is led."""
    items_in(rest, 0)
    return (book, led_word(Led(book)))


def tell_open(book, rest):
    """Tells whether the book is open."""
    items_in(rest, 0)
    return (book, led_word(Led(book, is_open=True)))


def led_word(led):
    """Whether there is no bad term, or one of them."""
    return "yes" if led.is_led else f"no: {led.bad_term().text}"


def tell_looks(book, rest):
    """Tells whether the tree of looks of a symbol exists."""
    return (book, "yes" if has_looks(book, items_in(rest, 1)[0]) else "no")


COMMANDS = {
    "rule": put_rule, "drop": drop_rule, "symbol": put_symbol, "sketch": put_sketch, "book": tell_book,
    "class": tell_class, "state": tell_state, "needed": tell_needed, "asked": tell_asked, "strict": tell_strict,
    "next": tell_next, "led": tell_led, "open": tell_open, "looks": tell_looks,
}
