"""What the symbols of a book make of states.

A state is told as a pair of sets here: of the indices of the parts, and of the indices of the classes of results.
A *view* of a state is what a symbol asks of it at one of its arguments, a pair as well: the items that can have it
there, and the set of the masks that its classes leave. Views are joined argument by argument; what is joined makes a
state in the end.
"""

from firstneed.base.trees import arguments_at
from firstneed.base.words import ANY, LOST
from firstneed.need.heads import Frame, bits_of, grown_results, numbers_in

LEAST = (0, 0)


def is_within(one, other):
    """Whether a pair of sets is within another one."""
    return one[0] & other[0] == one[0] and one[1] & other[1] == one[1]


def union_of(one, other):
    """What is in one of two pairs of sets."""
    return (one[0] | other[0], one[1] | other[1])


def shared_of(one, other):
    """What is in both of two pairs of sets."""
    return (one[0] & other[0], one[1] & other[1])


class Gate:
    """What one symbol makes of states. It keeps what it has worked out."""

    def __init__(self, head, classes):
        self.head = head
        self.results = {bits: number for number, bits in enumerate(classes)}
        self.masks = []
        self.mask_sets = {}
        self.passed = [[self.set_of(head.passing(at, bits)) for bits in classes] for at in range(head.arity)]
        self.views = {}
        self.joints = {}
        self.ends = {}
        self.unit = (head.whole, self.set_of(head.whole))

    def set_of(self, mask):
        """The set of just this mask. Masks are numbered as they come."""
        if mask not in self.mask_sets:
            self.mask_sets[mask] = 1 << len(self.masks)
            self.masks.append(mask)
        return self.mask_sets[mask]

    def view(self, at, state):
        """What the symbol asks of a state at this argument."""
        key = (at, state)
        if key not in self.views:
            masks = 0
            for number in numbers_in(state[1]):
                masks = masks | self.passed[at][number]
            self.views[key] = (self.head.passing(at, state[0]), masks)
        return self.views[key]

    def joint_of(self, one, other):
        """The view of the arguments of both views."""
        key = (one[1], other[1])
        if key not in self.joints:
            self.joints[key] = self.crossed_masks(one[1], other[1])
        return (one[0] & other[0], self.joints[key])

    def crossed_masks(self, one, other):
        """What one of the first and one of the other masks have in common, for each choice."""
        found = 0
        for number in numbers_in(one):
            for beside in numbers_in(other):
                found = found | self.set_of(self.masks[number] & self.masks[beside])
        return found

    def view_of(self, states):
        """The view of all arguments."""
        view = self.unit
        for at, state in enumerate(states):
            view = self.joint_of(view, self.view(at, state))
        return view

    def end_of(self, view):
        """The state that is made without a step, and the rules that can fire."""
        if view not in self.ends:
            state = (self.head.parts_at(view[0]), self.results_at(view[1]))
            self.ends[view] = (state, self.head.rules_at(view[0]))
        return self.ends[view]

    def results_at(self, masks):
        """The classes of the results that are made."""
        found = 0
        for number in numbers_in(masks):
            mask = self.masks[number]
            if not self.head.is_redex(mask):
                found = found | (1 << self.results[self.head.parts_at(mask)])
        return found


def sites_in(nodes, place):
    """For each place of a tree a triple: how it is told, its sign, and how its arguments are told.

    A place is told as a tuple that ends with it; arguments stand ahead of what they belong to.
    """
    found = [((*place, at), sign, tuple([(*place, inner) for inner in arguments_at(nodes, at)]))
             for at, (sign, _) in enumerate(nodes)]
    return found[::-1]


class Maker:
    """The parts and the classes of results of a book, and what its symbols make of states."""

    def __init__(self, book):
        self.frame = Frame(book)
        self.grown = grown_results(self.frame)
        self.classes = sorted([numbers_in(bits) for bits in self.grown])
        self.class_numbers = {row: number for number, row in enumerate(self.classes)}
        self.class_sets = [bits_of(row) for row in self.classes]
        self.gates = {word: Gate(head, self.class_sets) for word, head in self.frame.heads.items()}
        self.most = ((1 << len(self.frame.part_nodes)) - 1, (1 << len(self.classes)) - 1)
        self.sketch_nodes = [sketch.nodes for sketch in book.sketches]

    def made(self, sign, states, roots):
        """The state that a sign makes of others, where the roots of the sketches have these states."""
        if sign == ANY:
            return self.most
        if sign == LOST:
            return LEAST
        gate = self.gates[sign]
        return self.ended(gate, gate.view_of(states), roots)

    def ended(self, gate, view, roots):
        """The state that a symbol makes of what it asks of its arguments."""
        state, rules = gate.end_of(view)
        for rule in rules:
            state = union_of(state, roots[rule])
        return state

    def fired(self, word, states):
        """The indices of the rules that can fire, ascending."""
        gate = self.gates[word]
        return gate.end_of(gate.view_of(states))[1]

    def states_of(self, nodes, roots):
        """The states of the parts of a tree, by their places."""
        found = []
        below = []
        for sign, arity in reversed(list(nodes)):
            state = self.made(sign, below[:arity], roots)
            found = [state] + found
            below = [state] + below[arity:]
        return found

    def tuples_of(self, state):
        """A state as it is told by tuples."""
        return (numbers_in(state[0]), tuple([self.classes[number] for number in numbers_in(state[1])]))

    def sets_of(self, state):
        """The state that is told by these tuples."""
        return (bits_of(state[0]), bits_of([self.class_numbers[row] for row in state[1]]))
