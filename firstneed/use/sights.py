"""What can be looked at in a term: the leaves for anything that have to be known, and that tell rules apart."""

from firstneed.base.matching import common_instance, filling_parts, leaves_beside
from firstneed.base.trees import places_of, with_part_at
from firstneed.base.words import ANY
from firstneed.need.closing import least_roots
from firstneed.need.holes import Holes, bare_nodes
from firstneed.need.making import Maker


def sign_beside(nodes, other, place):
    """The sign that an instance of a tree has at the place of one of its leaves for anything."""
    parts = filling_parts(nodes, other)
    return parts[places_of(other, ANY).index(place)][0][0]


class Sights:
    """What can be looked at in the terms of a book."""

    def __init__(self, book):
        self.arities = book.symbols
        self.maker = Maker(book)
        self.root_states = least_roots(self.maker)

    def own_rules(self, word):
        """The pairs of the index and of the pattern of the rules that begin with a symbol."""
        patterns = self.maker.frame.pattern_nodes
        return [(rule, nodes) for rule, nodes in enumerate(patterns) if nodes[0][0] == word]

    def rules_met(self, nodes):
        """The pairs of the index and of the pattern of the own rules that a tree meets."""
        return [(rule, pattern) for rule, pattern in self.own_rules(nodes[0][0])
                if common_instance(nodes, pattern) is not None]

    def has_settled(self, nodes):
        """Whether a tree is an instance of the pattern of an own rule, or meets none of them."""
        met = self.rules_met(nodes)
        return len(met) == 0 or any([filling_parts(nodes, pattern) is not None for _, pattern in met])

    def looks_in(self, nodes):
        """The looks of a tree, ascending."""
        if self.has_settled(nodes):
            return []
        asked = sorted(set([at for _, pattern in self.rules_met(nodes) for at in leaves_beside(nodes, pattern)]))
        holes = Holes(self.maker, nodes, self.root_states)
        return [at for at in asked if holes.has_needed(at)]

    def looked_at(self, nodes, place, word):
        """The tree with this symbol in the place of a leaf for anything."""
        return with_part_at(nodes, place, bare_nodes(word, self.arities[word]))


class Growth:
    """The nodes of the tree of looks of a symbol, depth first, until one is met with which it ends.

    Each is told by its nodes and its look, or None; `links` has for each the place in the tree of those below it, by
    their symbols. It ends if all is there, with a `stuck` term, or with one node more than it may have, ahead of which
    none is stuck: then `has_more` is True.
    """

    def __init__(self, sights, word, limit):
        self.sights = sights
        self.limit = limit
        self.branches_met = []
        self.links = []
        self.stuck = None
        self.trail = ()
        self.has_more = False
        self.grow(bare_nodes(word, sights.arities[word]), ())

    def has_all(self):
        """Whether the whole tree is there."""
        return self.stuck is None and not self.has_more

    def grow(self, nodes, trail):
        """Adds a node, to which these looks lead, and all nodes below it."""
        is_leaf = self.sights.has_settled(nodes)
        looks = self.sights.looks_in(nodes)
        if not is_leaf and len(looks) == 0:
            self.stuck = nodes
            self.trail = trail
        elif len(self.branches_met) == self.limit:
            self.has_more = True
        else:
            self.branches_met.append((nodes, None if is_leaf else looks[0]))
            self.links.append({})
            if not is_leaf:
                self.grow_below(len(self.links) - 1, nodes, (*trail, looks[0]))

    def grow_below(self, number, nodes, trail):
        """Adds the nodes below one of them."""
        for word in self.sights.arities:
            if self.has_all():
                self.links[number][word] = len(self.links)
                self.grow(self.sights.looked_at(nodes, trail[-1], word), trail)
