"""Terms: trees of symbols and of the two leaves."""

from firstneed.base.matching import common_instance, common_pattern, filled_nodes, filling_parts
from firstneed.base.trees import (arguments_at, height_of, makes_one_tree, part_at, places_above, places_of, text_of,
                                  told_nodes, with_part_at)
from firstneed.base.words import ANY, LOST, is_index, is_leaf, is_node, is_renaming
from firstneed.errors import InvalidOperation, InvalidTerm, ParseError, UnknownPlace

MAX_NODES = 40


def is_tree(value):
    """Whether the value is a tuple of one to forty nodes that make one tree."""
    if not isinstance(value, tuple) or len(value) > MAX_NODES:
        return False
    return all([is_node(node) for node in value]) and makes_one_tree(value)


def symbols_in(nodes):
    """The different nodes with words, ascending."""
    return sorted({node for node in nodes if not is_leaf(node[0])})


class Term:
    """A tree of one to forty nodes, in which each word has one arity. It never changes."""

    def __init__(self, nodes):
        if not is_tree(nodes):
            raise InvalidTerm("a term is a tuple of one to forty nodes that make one tree")
        found = symbols_in(nodes)
        if len(dict(found)) < len(found):
            raise InvalidTerm("a word stands in the term with two arities")
        self._nodes = nodes

    @classmethod
    def build(cls, word, *terms):
        """The term of a word, or of a leaf, with these arguments."""
        if not all([isinstance(term, Term) for term in terms]):
            raise InvalidTerm("an argument is no term")
        inner = [node for term in terms for node in term.nodes]
        return cls(((word, len(terms)), *inner))

    @classmethod
    def read(cls, text):
        """The term with this text."""
        nodes = told_nodes(text) if isinstance(text, str) else ()
        if not is_tree(nodes) or text_of(nodes) != text:
            raise ParseError(None)
        return cls(nodes)

    @property
    def nodes(self):
        """The nodes in preorder."""
        return self._nodes

    @property
    def text(self):
        """The text of the term."""
        return text_of(self._nodes)

    @property
    def symbols(self):
        """A dict from the words, ascending, to their arities."""
        return dict(symbols_in(self._nodes))

    @property
    def unknown(self):
        """The places of the leaves for anything."""
        return places_of(self._nodes, ANY)

    @property
    def lost(self):
        """The places of the leaves that are never worked out."""
        return places_of(self._nodes, LOST)

    @property
    def is_ground(self):
        """Whether there are only symbols."""
        return not any([is_leaf(sign) for sign, _ in self._nodes])

    @property
    def depth(self):
        """The greatest number of nodes on a way from the root downwards."""
        return height_of(self._nodes)

    def children(self, place):
        """The places of the arguments of the node at a place."""
        self._check_place(place)
        return arguments_at(self._nodes, place)

    def part(self, place):
        """The term at a place."""
        self._check_place(place)
        return Term(part_at(self._nodes, place))

    def above(self, place):
        """The places from the root to this one."""
        self._check_place(place)
        return places_above(self._nodes, place)

    def with_part(self, place, other):
        """The term with another one in the place of the part at a place."""
        self._check_place(place)
        self._check_other(other)
        return Term(with_part_at(self._nodes, place, other.nodes))

    def filled(self, *terms):
        """The term with one of these terms in the place of each leaf for anything, in their order."""
        if len(terms) != len(self.unknown) or not all([isinstance(term, Term) for term in terms]):
            raise InvalidOperation("one term is needed for each leaf that stands for anything")
        return Term(filled_nodes(self._nodes, [term.nodes for term in terms]))

    def renamed(self, names):
        """The term with other words."""
        if not is_renaming(names, list(self.symbols)):
            raise InvalidOperation("names are a dict from just the words of the term to different words")
        return Term(tuple([(names.get(sign, sign), arity) for sign, arity in self._nodes]))

    def is_instance(self, other):
        """Whether this term comes of the other one by filling it."""
        self._check_other(other)
        return filling_parts(self._nodes, other.nodes) is not None

    def fillings(self, other):
        """The terms with which the other one has to be filled to give this one, or None."""
        self._check_other(other)
        parts = filling_parts(self._nodes, other.nodes)
        return None if parts is None else tuple([Term(part) for part in parts])

    def _check_place(self, place):
        if not is_index(place, len(self._nodes)):
            raise UnknownPlace(place)

    def _check_other(self, other):
        if not isinstance(other, Term):
            raise InvalidOperation("the other one is no term")

    def _check_operand(self, other):
        self._check_other(other)
        if self.lost or other.lost:
            raise InvalidOperation("a leaf that is never worked out stands in one of the terms")

    def __and__(self, other):
        self._check_operand(other)
        nodes = common_instance(self._nodes, other.nodes)
        return None if nodes is None else Term(nodes)

    def __or__(self, other):
        self._check_operand(other)
        return Term(common_pattern(self._nodes, other.nodes))

    def __getitem__(self, at):
        self._check_place(at)
        return self._nodes[at]

    def __len__(self):
        return len(self._nodes)

    def __iter__(self):
        return iter(self._nodes)

    def __contains__(self, x):
        # A node that holds True would be equal to one that holds 1.
        return is_node(x) and x in self._nodes

    def __eq__(self, other):
        return isinstance(other, Term) and self._nodes == other._nodes

    def __str__(self):
        return f"{self.text}"
