"""The places of a term that are needed: those around which no way leads to a result."""

from firstneed.base.books import check_book
from firstneed.base.checks import check_place, check_term, check_word
from firstneed.base.words import is_index
from firstneed.errors import InvalidOperation, InvalidTerm
from firstneed.need.closing import least_roots
from firstneed.need.costs import Costs
from firstneed.need.facts import RES, ROOT, Spots
from firstneed.need.holes import Holes, asked_in, bare_nodes, holed_nodes
from firstneed.need.lines import is_lines_in, way_within
from firstneed.need.making import Maker
from firstneed.need.tables import Table, closing_told


def check_open_term(term, symbols):
    """Refuses what is no term of these symbols and of the leaf for anything."""
    check_term(term, symbols)
    if term.lost:
        raise InvalidTerm("a leaf that is never worked out stands in the term")


def check_spot(book, term, at):
    """Refuses what is no book, no term of it, or no place of the term."""
    check_book(book)
    check_open_term(term, book.symbols)
    check_place(at, term)


def least_holes(maker, nodes):
    """What becomes of a tree with `#` somewhere, by the least table."""
    return Holes(maker, nodes, least_roots(maker))


def is_needed(book, term, at):
    """Whether a place of a term is needed."""
    check_spot(book, term, at)
    return least_holes(Maker(book), term.nodes).has_needed(at)


def needed_places(book, term):
    """All needed places, ascending."""
    return Need(book, term).needed


def asked_places(book, term):
    """All places with a redex or with the leaf for anything, ascending."""
    check_book(book)
    check_open_term(term, book.symbols)
    return asked_in(Maker(book), term.nodes)


def next_place(book, term):
    """The least asked place that is needed, or None."""
    both = Need(book, term).both
    return both[0] if both else None


def strict_arguments(book, word):
    """The indices of the arguments that are needed whatever they are, ascending."""
    check_book(book)
    check_word(word, book.symbols)
    maker = Maker(book)
    return strict_in(maker, least_roots(maker), word)


def strict_in(maker, roots, word):
    """These indices, where the roots of the sketches have these states."""
    arity = maker.frame.heads[word].arity
    holes = Holes(maker, bare_nodes(word, arity), roots)
    return tuple([at for at in range(arity) if holes.has_needed(at + 1)])


def strict_table(book):
    """A dict from all symbols of a book, ascending, to their strict arguments."""
    maker = Maker(book)
    roots = least_roots(maker)
    return {word: strict_in(maker, roots, word) for word in maker.gates}


def needed_paper(book, term, at):
    """A closed table by which no results are left with `#` at this place."""
    if not is_needed(book, term, at):
        raise InvalidOperation("the place is not needed")
    return Table(book).mapping


def is_needed_paper(book, term, at, value):
    """Whether the value is such a table, as a dict or as a Table."""
    check_spot(book, term, at)
    maker = Maker(book)
    closing = closing_told(maker, book, value)
    return closing is not None and Holes(maker, term.nodes, closing.roots()).has_needed(at)


def holed_costs(book, term, at, adds):
    """The costs of the facts of the term with `#` at this place."""
    maker = Maker(book)
    return Costs(maker, Spots(maker, holed_nodes(term.nodes, at)), adds)


def lines_around(costs):
    """For each class of results at the root lines that show it, beginning with what costs least."""
    rows = costs.found[ROOT]
    ranked = sorted([(rows[fact][0], fact) for fact in rows if fact[0] == RES])
    if len(ranked) == 0:
        raise InvalidOperation("the place is needed")
    return [costs.lines_of(ROOT, fact) for _, fact in ranked]


def spared_paper(book, term, at):
    """Lines that show a result of the term with `#` at this place."""
    check_spot(book, term, at)
    return lines_around(holed_costs(book, term, at, False))[0]


def is_spared_paper(book, term, at, value):
    """Whether the value is such lines."""
    check_spot(book, term, at)
    maker = Maker(book)
    if not is_lines_in(maker, Spots(maker, holed_nodes(term.nodes, at)), value):
        return False
    place, (kind, _), _, _ = value[-1]
    return place == ROOT and kind == RES


def around(book, term, at):
    """A way from the term with `#` at this place to a result."""
    check_spot(book, term, at)
    costs = holed_costs(book, term, at, True)
    return way_within(costs.maker, costs.spots, book.constants[0], lines_around(costs))


class Need:
    """The needs of a term. They never change."""

    def __init__(self, book, term):
        check_book(book)
        check_open_term(term, book.symbols)
        maker = Maker(book)
        holes = least_holes(maker, term.nodes)
        found = [holes.holed_at(at) for at in range(len(term))]
        self._book = book
        self._term = term
        self._holed = [maker.tuples_of(state) for state in found]
        self._needed = tuple([at for at, state in enumerate(found) if state[1] == 0])
        self._asks = asked_in(maker, term.nodes)
        self._root_state = maker.tuples_of(holes.part_states[0])

    @property
    def book(self):
        """The book."""
        return self._book

    @property
    def term(self):
        """The term."""
        return self._term

    @property
    def needed(self):
        """The needed places."""
        return self._needed

    @property
    def asks(self):
        """The places with a redex or with the leaf for anything."""
        return self._asks

    @property
    def both(self):
        """The asked places that are needed."""
        return tuple([at for at in self._asks if at in self._needed])

    @property
    def root_state(self):
        """The state of the term."""
        return self._root_state

    @property
    def is_done(self):
        """Whether nothing is asked."""
        return len(self._asks) == 0

    def holed(self, at):
        """The state of the term with `#` at a place."""
        check_place(at, self._term)
        return self._holed[at]

    def replaced(self, at, term):
        """The needs of the term with another one in the place of the part there."""
        check_place(at, self._term)
        check_open_term(term, self._book.symbols)
        return Need(self._book, self._term.with_part(at, term))

    def __contains__(self, x):
        return is_index(x, len(self._term)) and x in self._needed

    def __len__(self):
        return len(self._needed)

    def __iter__(self):
        return iter(self._needed)

    def __eq__(self, other):
        return isinstance(other, Need) and self._book == other._book and self._term == other._term

    def __str__(self):
        asked = f"{len(self.both)} of {len(self._asks)} asked"
        return f"{len(self._term)} nodes, {len(self._needed)} needed, {asked}"
