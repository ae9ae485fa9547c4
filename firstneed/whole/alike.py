"""Books that need the same: those in which just the same places of all ground terms are needed."""

from firstneed.base.books import check_book
from firstneed.base.words import LOST
from firstneed.errors import InvalidOperation
from firstneed.whole.looms import has_all_made
from firstneed.whole.pairs import (Side, are_pairs_in, is_parting, is_sparing, pair_looms, pair_sets,
                                   pair_told)
from firstneed.whole.rows import are_rows_with, has_one_mark, rows_upto, term_of_rows
from firstneed.whole.search import Search

MAX_PAIRS = 4000


def check_books(one, other):
    """Refuses what are no two books with equal symbols."""
    check_book(one)
    check_book(other)
    if one.symbols != other.symbols:
        raise InvalidOperation("the symbols of the books are not equal")


class Alike:
    """The pairs of two books, by their least tables; those of smaller terms are met first."""

    def __init__(self, one, other, has_mark):
        check_books(one, other)
        self.sides = (Side(one), Side(other))
        self.search = Search(pair_looms(self.sides, has_mark), MAX_PAIRS)

    def first_number(self, is_asked):
        """The number of the first pair that is as asked, or None. Further ones are not looked for then."""
        while self.search.step_on():
            if is_asked(self.search.met[-1]):
                return len(self.search.met) - 1
        return None

    def told(self, flag):
        """The ascending tuple of the pairs of the terms with the mark, or of those without it."""
        self.search.run_out()
        return tuple(sorted([pair_told(self.sides, entry) for entry in self.search.met if entry[0] == flag]))

    def rows_parting(self):
        """Rows with one mark whose term has results in one book alone, or None."""
        number = self.first_number(is_parting)
        return None if number is None else rows_upto(self.search.rows, number)


def need_same(one, other):
    """Whether just the same places of all ground terms are needed in both books."""
    return Alike(one, other, True).first_number(is_parting) is None


def plain_pairs(one, other):
    """The pairs of the ground terms, ascending."""
    return Alike(one, other, False).told(False)


def marked_pairs(one, other):
    """The pairs of the terms with just one mark, ascending."""
    return Alike(one, other, True).told(True)


def parting_rows(one, other):
    """Rows with one mark whose term has results in one book alone, or None."""
    return Alike(one, other, True).rows_parting()


def parting_term(one, other):
    """A term with one mark that has results in one book alone, or None."""
    rows = parting_rows(one, other)
    return None if rows is None else term_of_rows(rows)


def alike_paper(one, other):
    """A paper that shows whether the books need the same."""
    alike = Alike(one, other, True)
    rows = alike.rows_parting()
    return ("same", alike.told(False), alike.told(True)) if rows is None else ("parts", rows)


def is_alike_paper(one, other, value):
    """Whether the value is such a paper."""
    check_books(one, other)
    if not isinstance(value, tuple) or len(value) not in (2, 3):
        return False
    if len(value) == 2:
        return value[0] == "parts" and are_parting_rows(one, other, value[1])
    return value[0] == "same" and are_closed_pairs(one, other, value[1], value[2])


def are_parting_rows(one, other, value):
    """Whether the value is rows with one mark whose term has results in one book alone."""
    if not are_rows_with(value, one.symbols, (LOST,)) or not has_one_mark(value):
        return False
    return is_parting((True, Side(one).state_of_rows(value), Side(other).state_of_rows(value), ()))


def are_closed_pairs(one, other, plain, marked):
    """Whether these are closed tuples of pairs, and no marked one has results in one state alone."""
    sides = (Side(one), Side(other))
    if not are_pairs_in(sides, plain) or not are_pairs_in(sides, marked):
        return False
    entries = [pair_sets(sides, False, pair) for pair in plain] + [pair_sets(sides, True, pair) for pair in marked]
    return not any([is_parting(entry) for entry in entries]) and has_all_made(pair_looms(sides, True), entries)


def needs_over(one, other):
    """Whether each place of each ground term that is needed in the second book is needed in the first one."""
    return Alike(one, other, True).first_number(is_sparing) is None
