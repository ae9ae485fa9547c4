"""Terms with leaves instead of their parts, and the states that they have with `#` in the place of one."""

from firstneed.base.trees import arguments_at, places_above, with_part_at
from firstneed.base.words import ANY, LOST
from firstneed.need.making import LEAST


def bare_nodes(word, arity):
    """The nodes of a symbol with leaves for anything as its arguments."""
    return ((word, arity), *[(ANY, 0) for _ in range(arity)])


def holed_nodes(nodes, place):
    """The nodes with `#` in the place of the part at a place."""
    return with_part_at(nodes, place, ((LOST, 0),))


def asked_in(maker, nodes):
    """The places with a redex or with the leaf for anything, ascending."""
    redexes = maker.frame.redexes_in(nodes)
    return tuple([at for at, (sign, _) in enumerate(nodes) if sign == ANY or at in redexes])


class Holes:
    """The states of the parts of a tree, and those that it has with `#` somewhere."""

    def __init__(self, maker, nodes, roots):
        self.maker = maker
        self.tree = nodes
        self.root_states = roots
        self.part_states = maker.states_of(nodes, roots)

    def holed_at(self, place):
        """The state of the tree with `#` in the place of the part at a place."""
        state = LEAST
        changed = place
        for at in reversed(list(places_above(self.tree, place)[:-1])):
            below = [state if inner == changed else self.part_states[inner] for inner in arguments_at(self.tree, at)]
            state = self.maker.made(self.tree[at][0], below, self.root_states)
            changed = at
        return state

    def has_needed(self, place):
        """Whether no results are left with `#` in the place of the part there."""
        return self.holed_at(place)[1] == 0
