"""What the symbols of a book ask of entries, and make of them.

An entry is told by sets here: (class, flag, state, around). Its strand at an argument has the same form: the items that
its class leaves, its flag, the view of its state, and the least views of the states around.
"""

from firstneed.base.words import ANY
from firstneed.need.making import LEAST
from firstneed.whole.looms import Loom, Looms, least_of


class Strands:
    """The strands of one symbol, where the roots of the sketches have these states."""

    def __init__(self, maker, gate, roots):
        self.maker = maker
        self.gate = gate
        self.root_states = roots
        self.unit = (gate.head.whole, False, gate.unit, ())

    def strand_of(self, at, entry):
        """What the symbol asks of an entry at this argument."""
        row, flag, state, around = entry
        views = [self.gate.view(at, other) for other in around]
        return (self.gate.head.passing(at, row), flag, self.gate.view(at, state), least_of(views))

    def both_of(self, one, other):
        """The strand of the arguments of both strands."""
        # Only one of the arguments has the hole.
        views = [self.gate.joint_of(view, other[2]) for view in one[3]]
        views.extend([self.gate.joint_of(one[2], view) for view in other[3]])
        return (one[0] & other[0], one[1] or other[1], self.gate.joint_of(one[2], other[2]), least_of(views))

    def entry_from(self, strand):
        """The entry that comes of a strand of all arguments."""
        mask, flag, view, views = strand
        is_redex = self.gate.head.is_redex(mask)
        state = self.maker.ended(self.gate, view, self.root_states)
        around = [self.maker.ended(self.gate, one, self.root_states) for one in views]
        # With a hole in the place of the whole term nothing is left.
        least = (LEAST,) if is_redex else least_of(around)
        return (self.gate.head.parts_at(mask), flag or is_redex, state, least)


def entry_looms(maker, roots, is_open):
    """What all symbols of a book make of entries, and of the leaf for anything if it is let."""
    looms = {word: Loom(Strands(maker, gate, roots), gate.head.arity) for word, gate in maker.gates.items()}
    return Looms(looms, {ANY: (0, True, maker.most, (LEAST,))} if is_open else {})
