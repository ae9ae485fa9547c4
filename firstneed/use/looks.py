"""Trees of looks: which symbols have to be looked at, one after the other, to see which rule fits."""

from firstneed.base.books import check_book
from firstneed.base.checks import check_ground, check_word, is_term_of
from firstneed.base.terms import Term
from firstneed.base.words import ANY, is_index, is_leaf
from firstneed.errors import InvalidOperation, InvalidTerm, Refused, TooMany
from firstneed.need.holes import bare_nodes
from firstneed.use.sights import Growth, Sights, sign_beside

MAX_LOOKS = 400


def check_rooted(term, symbols):
    """Refuses what is no term of these symbols and the leaf for anything with a symbol as the root."""
    if not is_rooted(term, symbols):
        raise InvalidTerm("this is no term of the symbols with one of them as the root")


def is_rooted(value, symbols):
    """Whether the value is such a term."""
    return is_term_of(value, symbols) and not value.lost and not is_leaf(value.nodes[0][0])


def sights_of(book, term):
    """What can be looked at in terms of the book, if the term is one."""
    check_book(book)
    check_rooted(term, book.symbols)
    return Sights(book)


def is_settled(book, term):
    """Whether the term is an instance of the pattern of an own rule, or meets none of them."""
    return sights_of(book, term).has_settled(term.nodes)


def looks_of(book, term):
    """The looks of the term, ascending."""
    return tuple(sights_of(book, term).looks_in(term.nodes))


def meeting(book, term):
    """The indices of the own rules whose patterns meet the term, ascending."""
    return tuple([rule for rule, _ in sights_of(book, term).rules_met(term.nodes)])


def growth_of(book, word):
    """The tree of looks of a symbol, or what there is of it."""
    check_book(book)
    check_word(word, book.symbols)
    return Growth(Sights(book), word, MAX_LOOKS)


class Looks:
    """The tree of looks of a symbol. It never changes."""

    def __init__(self, book, word):
        growth = growth_of(book, word)
        if growth.stuck is not None:
            raise Refused(Term(growth.stuck).text)
        if growth.has_more:
            raise TooMany(MAX_LOOKS)
        self._book = book
        self._word = word
        self._rows = growth.branches_met
        self._links = growth.links
        self._branches = tuple([(Term(nodes), look) for nodes, look in growth.branches_met])

    @property
    def book(self):
        """The book."""
        return self._book

    @property
    def word(self):
        """The symbol."""
        return self._word

    @property
    def branches(self):
        """The nodes, depth first, as pairs of a term and of its look, or None."""
        return self._branches

    def path(self, term):
        """The looks on the way of a ground term with this root."""
        return tuple([self._rows[number][1] for number in self._way(term)[:-1]])

    def settled_at(self, term):
        """The term of the leaf to which they lead."""
        return self._branches[self._way(term)[-1]][0]

    def rule(self, term):
        """The least index of an own rule that fits at the root of the term, or None."""
        self._check_term(term)
        return min(self._book.rules_at(term, 0), default=None)

    def _check_term(self, term):
        check_ground(term, self._book.symbols)
        if term.nodes[0][0] != self._word:
            raise InvalidTerm("the term has another root")

    def _way(self, term):
        """The numbers of the nodes on the way of a term."""
        self._check_term(term)
        numbers = [0]
        while self._rows[numbers[-1]][1] is not None:
            nodes, look = self._rows[numbers[-1]]
            numbers.append(self._links[numbers[-1]][sign_beside(term.nodes, nodes, look)])
        return numbers

    def __len__(self):
        return len(self._branches)

    def __eq__(self, other):
        return isinstance(other, Looks) and self._book == other._book and self._word == other._word

    def __str__(self):
        inner = [look for _, look in self._branches if look is not None]
        return f"{len(self._branches)} nodes, {len(inner)} looks"


def has_looks(book, word):
    """Whether the tree of looks of a symbol exists."""
    return growth_of(book, word).has_all()


def stuck_paper(book, word):
    """A stuck term, and the looks that lead to it."""
    growth = growth_of(book, word)
    if growth.has_all():
        raise InvalidOperation("the tree of looks exists")
    if growth.has_more:
        raise TooMany(MAX_LOOKS)
    return (Term(growth.stuck), growth.trail)


def is_stuck_paper(book, word, value):
    """Whether the value is such a pair."""
    check_book(book)
    check_word(word, book.symbols)
    if not isinstance(value, tuple) or len(value) != 2 or not is_rooted(value[0], book.symbols):
        return False
    return isinstance(value[1], tuple) and do_lead(Sights(book), word, value[0].nodes, value[1])


def do_lead(sights, word, last, looks):
    """Whether these looks lead from a bare symbol to the last tree, and this is stuck."""
    if last[0][0] != word:
        return False
    nodes = bare_nodes(word, sights.arities[word])
    for look in looks:
        if not is_index(look, len(nodes)) or look not in sights.looks_in(nodes):
            return False
        sign = sign_beside(last, nodes, look)
        if sign == ANY:
            return False
        nodes = sights.looked_at(nodes, look, sign)
    return nodes == last and not sights.has_settled(last) and len(sights.looks_in(last)) == 0
