"""Tables: what can become of the sketches of a book."""

from firstneed.base.books import check_book
from firstneed.base.checks import check_place, check_rule, check_term, check_word
from firstneed.errors import InvalidOperation, InvalidTable
from firstneed.need.closing import Closing, closed_from
from firstneed.need.forms import are_numbers, is_state_form
from firstneed.need.making import Maker, is_within, shared_of, union_of

HOLE = ((), ())


def is_state_in(maker, value):
    """Whether the value is a state of the book."""
    if not is_state_form(value) or not all([row in maker.class_numbers for row in value[1]]):
        return False
    return all([part < len(maker.frame.part_nodes) for part in value[0]])


def is_pair_of(value, keys):
    """Whether the value is one of these pairs of integers."""
    return isinstance(value, tuple) and len(value) == 2 and are_numbers(value) and value in keys


def is_table_in(maker, value):
    """Whether the value is a table of the book."""
    keys = list(Closing(maker, {}).rows)
    if not isinstance(value, dict) or len(value) != len(keys):
        return False
    return all([is_pair_of(key, keys) and is_state_in(maker, state) for key, state in value.items()])


def closing_of(maker, table):
    """The states of a table."""
    return Closing(maker, {key: maker.sets_of(state) for key, state in table.items()})


def is_closed_in(maker, value):
    """Whether the value is a closed table of the book."""
    return is_table_in(maker, value) and closing_of(maker, value).has_all()


def closing_told(maker, book, value):
    """The states of a closed table, which is told as a dict or as a Table of an equal book; None for other values."""
    rows = value
    if isinstance(value, Table):
        rows = value.mapping if value.book == book else None
    return closing_of(maker, rows) if is_closed_in(maker, rows) else None


def is_state(book, value):
    """Whether the value is a state of the book."""
    check_book(book)
    return is_state_in(Maker(book), value)


def is_table(book, value):
    """Whether the value is a table of the book."""
    check_book(book)
    return is_table_in(Maker(book), value)


def is_closed(book, value):
    """Whether the value is a closed table of the book."""
    check_book(book)
    return is_closed_in(Maker(book), value)


def check_state_pair(state):
    """Refuses what is no pair of a tuple of integers and of a tuple of such tuples."""
    if not isinstance(state, tuple) or len(state) != 2 or not are_numbers(state[0]) or not isinstance(state[1], tuple):
        raise InvalidTable("this is no pair of two tuples")
    if not all([are_numbers(row) for row in state[1]]):
        raise InvalidTable("a class is a tuple of integers of at least 0")


def is_below(one, other):
    """Whether one state is below another one."""
    check_state_pair(one)
    check_state_pair(other)
    return all([part in other[0] for part in one[0]]) and all([row in other[1] for row in one[1]])


def anything(book):
    """The state of the leaf for anything."""
    check_book(book)
    maker = Maker(book)
    return maker.tuples_of(maker.most)


class Table:
    """A closed table. It never changes."""

    def __init__(self, book, rows=None):
        check_book(book)
        self._book = book
        self._maker = Maker(book)
        if rows is not None and not is_closed_in(self._maker, rows):
            raise InvalidTable("this is no closed table of the book")
        closing = closed_from(self._maker, {}) if rows is None else closing_of(self._maker, rows)
        self._rows = {key: closing.rows[key] for key in sorted(closing.rows)}
        self._roots = closing.roots()
        self._mapping = {key: self._maker.tuples_of(state) for key, state in self._rows.items()}

    @property
    def book(self):
        """The book."""
        return self._book

    @property
    def mapping(self):
        """The dict from the pairs of a rule and a place, ascending, to their states."""
        return {key: self._mapping[key] for key in self._mapping}

    def is_least(self):
        """Whether this is the least table of its book."""
        return closed_from(self._maker, {}).rows == self._rows

    def of(self, rule):
        """The state of the sketch of a rule."""
        check_rule(rule, self._book.rules)
        return self._mapping[(rule, 0)]

    def made(self, word, states):
        """The state of a term with this symbol as the root, whose arguments have these states."""
        sets = self._checked_states(word, states)
        return self._maker.tuples_of(self._maker.made(word, sets, self._roots))

    def fired(self, word, states):
        """The indices of the rules that can fire there."""
        return self._maker.fired(word, self._checked_states(word, states))

    def state(self, term):
        """The state of a term."""
        return self.states(term)[0]

    def states(self, term):
        """The states of the parts of a term, by their places."""
        check_term(term, self._book.symbols)
        return tuple([self._maker.tuples_of(state) for state in self._maker.states_of(term.nodes, self._roots)])

    def assuming(self, rule, place, state):
        """The least closed table that has at least these states, and this one there."""
        check_rule(rule, self._book.rules)
        check_place(place, self._book.sketches[rule])
        if not is_state_in(self._maker, state):
            raise InvalidTable("this is no state of the book")
        raised = union_of(self._rows[(rule, place)], self._maker.sets_of(state))
        return self._closed({**self._rows, (rule, place): raised})

    def joined(self, other):
        """The least closed table that has at least the states of both."""
        self._check_table(other)
        return self._closed({key: union_of(state, other._rows[key]) for key, state in self._rows.items()})

    def shared(self, other):
        """The closed table with what both have at each node."""
        self._check_table(other)
        return self._closed({key: shared_of(state, other._rows[key]) for key, state in self._rows.items()})

    def is_within(self, value):
        """Whether the value is a table of an equal book of which each state has at least the one here."""
        if not isinstance(value, Table) or value.book != self._book:
            return False
        return all([is_within(state, value._rows[key]) for key, state in self._rows.items()])

    def _checked_states(self, word, states):
        symbols = self._book.symbols
        check_word(word, symbols)
        if not isinstance(states, tuple) or len(states) != symbols[word]:
            raise InvalidTable("there are not as many states as arguments")
        if not all([is_state_in(self._maker, state) for state in states]):
            raise InvalidTable("this is no state of the book")
        return [self._maker.sets_of(state) for state in states]

    def _check_table(self, other):
        if not isinstance(other, Table) or other.book != self._book:
            raise InvalidOperation("this is no table of an equal book")

    def _closed(self, rows):
        closing = closed_from(self._maker, rows)
        return Table(self._book, {key: self._maker.tuples_of(state) for key, state in closing.rows.items()})

    def __len__(self):
        return len(self._mapping)

    def __eq__(self, other):
        return isinstance(other, Table) and self._book == other._book and self._mapping == other._mapping

    def __str__(self):
        empty = [key for key, state in self._mapping.items() if len(state[1]) == 0]
        return f"{len(self._mapping)} nodes, {len(empty)} of them without results"
