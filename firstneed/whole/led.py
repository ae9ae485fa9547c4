"""Books that are led: those in which some redex is needed wherever there is one."""

from firstneed.base.books import check_book
from firstneed.base.checks import check_flag, check_term
from firstneed.errors import InvalidOperation, InvalidRows, InvalidTable, InvalidTerm
from firstneed.need.closing import closed_from, least_roots
from firstneed.need.forms import ascends
from firstneed.need.making import Maker
from firstneed.need.tables import Table, closing_of, closing_told, is_closed_in
from firstneed.whole.entries import (covers, entry_sets, entry_told, has_bad_sets, is_bad, is_entry_form,
                                     is_entry_in)
from firstneed.whole.looms import has_all_made
from firstneed.whole.rows import are_rows, rows_of_nodes, rows_upto, term_of_rows
from firstneed.whole.search import Search
from firstneed.whole.strands import entry_looms

MAX_ENTRIES = 4000


def check_work_term(term, symbols, is_open):
    """Refuses what is no term of these symbols, and of the leaf for anything if it is let."""
    check_term(term, symbols)
    if term.lost or (term.unknown and is_open is not True):
        raise InvalidTerm("a leaf stands in the term")


def entry_of(book, term, table=None, *, is_open=False):
    """The entry of a term by a table, or by the least one."""
    check_book(book)
    check_work_term(term, book.symbols, is_open)
    maker = Maker(book)
    closing = closed_from(maker, {}) if table is None else closing_told(maker, book, table)
    if closing is None:
        raise InvalidTable("this is no closed table of the book")
    check_flag(is_open)
    return entry_told(maker, entry_looms(maker, closing.roots(), True).entry_of(term.nodes))


def check_entry(value):
    """Refuses what has not the form of an entry."""
    if not is_entry_form(value):
        raise InvalidOperation("this has not the form of an entry")


def is_bad_entry(entry):
    """Whether an entry is bad."""
    check_entry(entry)
    return is_bad(entry)


def does_cover(entry, other):
    """Whether an entry covers another one."""
    check_entry(entry)
    check_entry(other)
    return covers(entry, other)


def is_rows(book, value, *, is_open=False):
    """Whether the value is rows."""
    check_book(book)
    check_flag(is_open)
    return are_rows(value, book.symbols, is_open)


def term_of(book, rows, *, is_open=False):
    """The term of rows."""
    check_book(book)
    if not are_rows(rows, book.symbols, is_open is True):
        raise InvalidRows("these are no rows")
    check_flag(is_open)
    return term_of_rows(rows)


def rows_of(book, term, *, is_open=False):
    """The rows of a term."""
    check_book(book)
    check_work_term(term, book.symbols, is_open)
    check_flag(is_open)
    return rows_of_nodes(term.nodes)


class Led:
    """The worst entries of a book. They never change."""

    def __init__(self, book, *, is_open=False):
        check_book(book)
        check_flag(is_open)
        maker = Maker(book)
        search = Search(entry_looms(maker, least_roots(maker), is_open), MAX_ENTRIES)
        search.run_out()
        self._book = book
        self._is_open = is_open
        self._rows = search.rows
        # Numbers ascend with the sizes of the terms.
        self._bad = min([number for number, entry in enumerate(search.met) if has_bad_sets(entry)], default=None)
        self._numbers = {entry_told(maker, entry): number for entry, number in search.worst.kept()}
        self._entries = tuple(sorted(self._numbers))

    @property
    def book(self):
        """The book."""
        return self._book

    @property
    def is_open(self):
        """Whether leaves for anything are let."""
        return self._is_open

    @property
    def is_led(self):
        """Whether the book is led, or open."""
        return self._bad is None

    @property
    def entries(self):
        """The entries that no other ones cover, ascending."""
        return self._entries

    def rows_with(self, entry):
        """Rows of a term with this entry."""
        if entry not in self:
            raise InvalidOperation("this is none of the entries")
        return rows_upto(self._rows, self._numbers[entry])

    def bad_rows(self):
        """Rows of a bad term."""
        if self._bad is None:
            raise InvalidOperation("there is no bad term")
        return rows_upto(self._rows, self._bad)

    def bad_term(self):
        """A bad term."""
        return term_of(self._book, self.bad_rows(), is_open=self._is_open)

    def __len__(self):
        return len(self._entries)

    def __contains__(self, x):
        return is_entry_form(x) and x in self._numbers

    def __eq__(self, other):
        return isinstance(other, Led) and self._book == other._book and self._is_open == other._is_open

    def __str__(self):
        end = "led" if self._bad is None else "bad"
        return f"{len(self._entries)} entries, {end}"


def led_paper(book, *, is_open=False):
    """A paper that shows whether the book is led, or open."""
    led = Led(book, is_open=is_open)
    return ("led", Table(book).mapping, led.entries) if led.is_led else ("bad", led.bad_rows())


def is_led_paper(book, value, *, is_open=False):
    """Whether the value is such a paper."""
    check_book(book)
    check_flag(is_open)
    if not isinstance(value, tuple) or len(value) not in (2, 3) or not isinstance(value[0], str):
        return False
    maker = Maker(book)
    if len(value) == 2:
        return value[0] == "bad" and are_bad_rows(maker, book, value[1], is_open)
    return value[0] == "led" and is_closed_in(maker, value[1]) and is_closed_by(maker, value[1], value[2], is_open)


def are_bad_rows(maker, book, value, is_open):
    """Whether the value is rows of a bad term."""
    if not are_rows(value, book.symbols, is_open):
        return False
    return has_bad_sets(entry_looms(maker, least_roots(maker), is_open).entry_of_rows(value))


def is_closed_by(maker, table, value, is_open):
    """Whether the value is an ascending tuple of entries that is closed by a closed table, none of them bad."""
    if not isinstance(value, tuple) or not all([is_entry_in(maker, entry) for entry in value]) or not ascends(value):
        return False
    if any([is_bad(entry) for entry in value]):
        return False
    looms = entry_looms(maker, closing_of(maker, table).roots(), is_open)
    return has_all_made(looms, [entry_sets(maker, entry) for entry in value])
