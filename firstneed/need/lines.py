"""Lines, which show what can become of a term, and ways, on which it does."""

from firstneed.base.books import check_book
from firstneed.base.checks import check_place, check_term
from firstneed.base.terms import Term
from firstneed.base.words import ANY, LOST, is_index
from firstneed.errors import InvalidLines, InvalidNumber, InvalidOperation, TooMany
from firstneed.need.costs import Costs
from firstneed.need.facts import CAN, RES, ROOT, RULE, TERM, Spots, is_fact, is_telling, uses_of
from firstneed.need.heads import bits_of, numbers_in
from firstneed.need.making import Maker
from firstneed.need.ways import MAX_STEPS, Walks, end_nodes, way_told

MAX_LINES = 2000


def is_lines_in(maker, spots, value):
    """Whether the value is lines about these places."""
    if not isinstance(value, tuple) or not 1 <= len(value) <= MAX_LINES:
        return False
    for number in range(len(value)):
        if not is_line(maker, spots, value, number):
            return False
    return True


def is_line(maker, spots, lines, number):
    """Whether there is a line with this number, if there is one with each earlier number."""
    line = lines[number]
    if not isinstance(line, tuple) or len(line) != 4:
        return False
    place, fact, rule, uses = line
    if not spots.is_place(place) or not is_fact(maker, fact):
        return False
    if rule is not None and not is_index(rule, len(maker.sketch_nodes)):
        return False
    if not isinstance(uses, tuple) or not all([is_index(use, number) for use in uses]):
        return False
    return does_follow(maker, spots, (place, fact, rule), tuple([lines[use][:2] for use in uses]))


def does_follow(maker, spots, told, uses):
    """Whether a fact follows by a rule, or without one, from pairs of a place and a fact."""
    place, fact, rule = told
    sign, below = spots.signs[place], spots.below[place]
    if sign in (ANY, LOST):
        return sign == ANY and rule is None and uses == ()
    head = maker.frame.heads[sign]
    if rule is not None:
        return rule in head.rule_rows and uses == (*uses_of(head.rule_rows[rule], below), ((RULE, rule, 0), fact))
    if fact[0] == CAN:
        return fact[1] in head.part_rows and uses == uses_of(head.part_rows[fact[1]], below)
    return is_put_together(head, fact[1], below, uses)


def is_put_together(head, row, below, uses):
    """Whether uses are results of the arguments, of which the symbol makes one of this class."""
    if tuple([place for place, _ in uses]) != below or not all([kind == RES for _, (kind, _) in uses]):
        return False
    mask = head.meeting([bits_of(inner) for _, (_, inner) in uses])
    return not head.is_redex(mask) and numbers_in(head.parts_at(mask)) == row


def heights_of(lines):
    """The heights of the lines."""
    found = []
    for line in lines:
        found.append(1 + max([found[use] for use in line[3]], default=0))
    return found


def used_by(lines, index):
    """The indices of a line and of those that lead to it, ascending."""
    wanted = {index: True}
    for number in range(index, -1, -1):
        if number in wanted:
            wanted.update({use: True for use in lines[number][3]})
    return sorted(wanted)


def taken_out(lines, indices, is_once):
    """These lines, with numbers that tell where the lines stand now; equal ones once, if that is asked for."""
    numbers = {}
    found = []
    firsts = {}
    for index in indices:
        place, fact, rule, uses = lines[index]
        line = (place, fact, rule, tuple([numbers[use] for use in uses]))
        if is_once and line in firsts:
            numbers[index] = firsts[line]
        else:
            numbers[index] = firsts[line] = len(found)
            found.append(line)
    return tuple(found)


def way_within(maker, spots, constant, rows):
    """A way by the first one of these rows of lines that leads to one within the bounds."""
    walks = Walks(maker, spots, constant)
    for lines in rows:
        run = walks.last_run(lines)
        if run is not None:
            return way_told(run)
    raise TooMany(MAX_STEPS)


class Lines:
    """Lines of a book and a term. They never change."""

    def __init__(self, book, term, lines):
        check_book(book)
        check_term(term, book.symbols)
        maker = Maker(book)
        if not is_lines_in(maker, Spots(maker, term.nodes), lines):
            raise InvalidLines("these are no lines of the book and the term")
        self._book = book
        self._term = term
        self._lines = lines
        self._heights = heights_of(lines)

    @property
    def book(self):
        """The book."""
        return self._book

    @property
    def term(self):
        """The term."""
        return self._term

    @property
    def lines(self):
        """The lines, as tuples."""
        return self._lines

    @property
    def place(self):
        """The place of the last line."""
        return self._lines[-1][0]

    @property
    def fact(self):
        """The fact of the last line."""
        return self._lines[-1][1]

    @property
    def height(self):
        """The height of the last line."""
        return self._heights[-1]

    def height_at(self, index):
        """The height of a line."""
        self._check_index(index)
        return self._heights[index]

    def upto(self, index):
        """A line, and those that lead to it."""
        self._check_index(index)
        return Lines(self._book, self._term, taken_out(self._lines, used_by(self._lines, index), False))

    def trimmed(self):
        """The last line and those that lead to it, each once."""
        last = len(self._lines) - 1
        return Lines(self._book, self._term, taken_out(self._lines, used_by(self._lines, last), True))

    def way(self):
        """A way of the fact of the last line, which is told of the root."""
        if self.place != ROOT:
            raise InvalidOperation("the last line is not about the root of the term")
        maker = Maker(self._book)
        spots = Spots(maker, self._term.nodes)
        cheapest = Costs(maker, spots, True).lines_of(ROOT, self.fact)
        return way_within(maker, spots, self._book.constants[0], [cheapest, self._lines])

    def _check_index(self, index):
        if not is_index(index, len(self._lines)):
            raise InvalidNumber(index)

    def __getitem__(self, at):
        self._check_index(at)
        return self._lines[at]

    def __len__(self):
        return len(self._lines)

    def __iter__(self):
        return iter(self._lines)

    def __contains__(self, x):
        return is_telling(x) and x in [line[:2] for line in self._lines]

    def __eq__(self, other):
        if not isinstance(other, Lines) or self._book != other._book or self._term != other._term:
            return False
        return self._lines == other._lines

    def __str__(self):
        return f"{len(self._lines)} lines, height {self.height}"


def is_lines(book, term, value):
    """Whether the value is lines of the book and the term."""
    check_book(book)
    check_term(term, book.symbols)
    maker = Maker(book)
    return is_lines_in(maker, Spots(maker, term.nodes), value)


def check_fact(maker, fact):
    """Refuses what is no fact of the book."""
    if not is_fact(maker, fact):
        raise InvalidOperation("this is no fact of the book")


def costs_asked(book, term, at, fact):
    """The heights of the facts, if these are a place of the term and a fact."""
    check_book(book)
    check_term(term, book.symbols)
    check_place(at, term)
    maker = Maker(book)
    check_fact(maker, fact)
    return Costs(maker, Spots(maker, term.nodes), False)


def shown(book, term, at, fact):
    """Lines of the least height that show the fact at this node of the term."""
    costs = costs_asked(book, term, at, fact)
    if fact not in costs.found[(TERM, at)]:
        raise InvalidOperation("no lines show this")
    return Lines(book, term, costs.lines_of((TERM, at), fact))


def is_shown(book, term, at, fact, value):
    """Whether the value is a tuple of lines whose last one shows the fact at this node of the term."""
    check_book(book)
    check_term(term, book.symbols)
    check_place(at, term)
    maker = Maker(book)
    check_fact(maker, fact)
    return is_lines_in(maker, Spots(maker, term.nodes), value) and value[-1][:2] == ((TERM, at), fact)


def round_of(book, term, at, fact):
    """The least height of lines that show the fact at this node of the term, or None."""
    costs = costs_asked(book, term, at, fact)
    rows = costs.found[(TERM, at)]
    return rows[fact][0] if fact in rows else None


def is_way(book, term, fact, value):
    """Whether the value is a way from the term whose end is as the fact tells."""
    check_book(book)
    check_term(term, book.symbols)
    maker = Maker(book)
    check_fact(maker, fact)
    nodes = end_nodes(book, term, value)
    if nodes is None:
        return False
    found = maker.frame.class_of(nodes)
    if fact[0] == CAN:
        return fact[1] in numbers_in(found)
    return book.is_result(Term(nodes)) and numbers_in(found) == fact[1]


def end_of(book, term, way):
    """The end of a way from the term."""
    check_book(book)
    check_term(term, book.symbols)
    nodes = end_nodes(book, term, way)
    if nodes is None:
        raise InvalidOperation("this is no way from the term")
    return Term(nodes)
