"""The steps of a program, told by the nodes of terms."""

from firstneed.base.programs import stepped_nodes
from firstneed.base.terms import MAX_NODES
from firstneed.need.heads import Frame


class Strides:
    """The steps of a program. Terms are told as tuples of nodes."""

    def __init__(self, program):
        self.frame = Frame(program.full())
        self.sides = program.rules

    def redexes_of(self, nodes):
        """The pairs of a place and of a rule that fits there, ascending."""
        masks = self.frame.masks_of(nodes)
        return [(at, rule) for at, mask in enumerate(masks) for rule in self.frame.heads[nodes[at][0]].rules_at(mask)]

    def behind(self, nodes, place, rule):
        """The tree behind a step, or None if it has more than forty nodes."""
        found = stepped_nodes(self.sides[rule], self.frame.pattern_nodes[rule], nodes, place)
        return found if len(found) <= MAX_NODES else None

    def all_behind(self, nodes):
        """The triples of a place, a rule and the tree behind it, ascending by place and rule."""
        steps = [(at, rule, self.behind(nodes, at, rule)) for at, rule in self.redexes_of(nodes)]
        return [step for step in steps if step[2] is not None]
