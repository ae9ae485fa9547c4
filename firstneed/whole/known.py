"""How much of the right sides has to be known."""

from firstneed.base.books import Book, check_book
from firstneed.base.checks import check_ground
from firstneed.base.programs import check_program
from firstneed.base.terms import Term
from firstneed.base.words import ANY
from firstneed.errors import InvalidOperation, TooMany
from firstneed.need.forms import are_numbers
from firstneed.need.places import Need
from firstneed.whole.between import all_rows, is_tip, is_tip_of, trees_between
from firstneed.whole.led import Led, is_led_paper

MAX_BOOKS = 1000


def is_between(book, low, high):
    """Whether the first book lies between the others."""
    check_book(book)
    check_book(low)
    check_book(high)
    return book.knows_more(low) and high.knows_more(book)


def tips(book):
    """The pairs of a rule and of a node of its sketch that is a symbol, below which nothing is known; ascending."""
    check_book(book)
    return tuple([(rule, at) for rule, sketch in enumerate(book.sketches) for at in range(len(sketch))
                  if is_tip(sketch.nodes, at)])


def given_up(book, rule, node):
    """The book without what is known at a tip."""
    check_book(book)
    if not is_tip_of(book.rules, rule, node):
        raise InvalidOperation("this is no tip of the book")
    return book.with_sketch(rule, book.sketches[rule].with_part(node, Term.build(ANY)))


def check_patterns(one, other):
    """Refuses what are no two books with equal symbols and patterns."""
    check_book(one)
    check_book(other)
    if one.symbols != other.symbols or one.patterns != other.patterns:
        raise InvalidOperation("the symbols or the patterns of the books are not equal")


def with_sketches(book, sketches):
    """The book with other sketches."""
    return Book(book.symbols, tuple(zip(book.patterns, sketches)))


def meet(one, other):
    """The book that knows most of those that both know more than."""
    check_patterns(one, other)
    return with_sketches(one, [mine | beside for mine, beside in zip(one.sketches, other.sketches)])


def joined(one, other):
    """The book that knows least of those that know more than both."""
    check_patterns(one, other)
    sketches = [mine & beside for mine, beside in zip(one.sketches, other.sketches)]
    if None in sketches:
        raise InvalidOperation("two of the sketches have no common instance")
    return with_sketches(one, sketches)


def books_between(low, high):
    """All books that lie between both, ascending by the texts of their sketches."""
    check_book(low)
    check_book(high)
    if not high.knows_more(low):
        raise InvalidOperation("the second book does not know more than the first one")
    for row in all_rows(sketch_options(low, high)):
        yield with_sketches(low, [Term(nodes) for nodes in row])


def sketch_options(low, high):
    """For each rule the sketches that lie between those of two books, if they are not too many for all rules."""
    options = [trees_between(one.nodes, other.nodes) for one, other in zip(low.sketches, high.sketches)]
    count = 1
    for row in options:
        count = count * len(row)
    if count > MAX_BOOKS:
        raise TooMany(MAX_BOOKS)
    return options


def check_led(program, is_open):
    """Refuses what is no program, what is no boolean, and a program of which the full book is not led."""
    check_program(program)
    if not Led(program.full(), is_open=is_open).is_led:
        raise InvalidOperation("the full book of the program is not led")


def least_known(program, *, is_open=False):
    """A least known book of a program, and rows of a bad term for each of its tips."""
    check_led(program, is_open)
    book = program.full()
    sizes = [len(sketch) for sketch in book.sketches]
    for rule, size in enumerate(sizes):
        # Nodes stand ahead of what is below them: so each is tried when it has become a tip, if it ever does.
        for node in range(size - 1, -1, -1):
            if is_tip_of(book.rules, rule, node):
                less = given_up(book, rule, node)
                book = less if Led(less, is_open=is_open).is_led else book
    rows = {(rule, node): Led(given_up(book, rule, node), is_open=is_open).bad_rows() for rule, node in tips(book)}
    return (book, rows)


def is_least_known(program, value, *, is_open=False):
    """Whether the value is such a pair."""
    check_led(program, is_open)
    if not isinstance(value, tuple) or len(value) != 2 or not isinstance(value[0], Book):
        return False
    book, rows = value
    if not is_between(book, program.strong(), program.full()) or not are_tips_of(book, rows):
        return False
    if not Led(book, is_open=is_open).is_led:
        return False
    papers = [(given_up(book, rule, node), ("bad", rows[(rule, node)])) for rule, node in tips(book)]
    return all([is_led_paper(less, paper, is_open=is_open) for less, paper in papers])


def are_tips_of(book, value):
    """Whether the value is a dict from just the tips of the book."""
    found = tips(book)
    if not isinstance(value, dict) or len(value) != len(found):
        return False
    return all([are_numbers(key) and key in found for key in value])


def spared(program, term):
    """A dict from the places of the redexes of a ground term to how much has to be known for them to be needed."""
    check_program(program)
    check_ground(term, program.symbols)
    always = Need(program.strong(), term)
    known = Need(program.full(), term)
    return {at: needed_word(at, always, known) for at in known.asks}


def needed_word(at, always, known):
    """How much has to be known for a place to be needed."""
    if at in always:
        return "always"
    return "known" if at in known else "open"
