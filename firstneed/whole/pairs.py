"""Pairs of states, one of each of two books, that a term has in both.

A pair is told as an entry here: whether the term has the mark `#`, the two states as sets, and no further pairs.
"""

from firstneed.base.words import LOST
from firstneed.need.closing import least_roots
from firstneed.need.forms import ascends
from firstneed.need.making import LEAST, Maker
from firstneed.need.tables import is_state_in
from firstneed.whole.looms import Loom, Looms


class Side:
    """What one of the books makes of states, by its least table."""

    def __init__(self, book):
        self.maker = Maker(book)
        self.root_states = least_roots(self.maker)

    def state_from(self, word, view):
        """The state that a symbol makes of what it asks of its arguments."""
        return self.maker.ended(self.maker.gates[word], view, self.root_states)

    def state_of_rows(self, rows):
        """The state of the term of rows."""
        found = []
        for sign, uses in rows:
            found.append(self.maker.made(sign, [found[use] for use in uses], self.root_states))
        return found[-1]


class PairStrands:
    """The strands of one symbol: whether one of the arguments has the mark, and what is asked of it in both books."""

    def __init__(self, word, sides):
        self.sign = word
        self.sides = sides
        self.gates = [side.maker.gates[word] for side in sides]
        self.unit = (False, self.gates[0].unit, self.gates[1].unit, ())

    def strand_of(self, at, entry):
        """What the symbol asks of a pair at this argument."""
        flag, state, beside, _ = entry
        return (flag, self.gates[0].view(at, state), self.gates[1].view(at, beside), ())

    def both_of(self, one, other):
        """The strand of the arguments of both strands, or None if the mark stands in both."""
        if one[0] and other[0]:
            return None
        view = self.gates[0].joint_of(one[1], other[1])
        return (one[0] or other[0], view, self.gates[1].joint_of(one[2], other[2]), ())

    def entry_from(self, strand):
        """The pair that comes of a strand of all arguments."""
        flag, view, beside, _ = strand
        return (flag, self.sides[0].state_from(self.sign, view), self.sides[1].state_from(self.sign, beside), ())


def pair_looms(sides, has_mark):
    """What all symbols of two books make of pairs, and of the mark if it is let."""
    gates = sides[0].maker.gates
    looms = {word: Loom(PairStrands(word, sides), gate.head.arity) for word, gate in gates.items()}
    return Looms(looms, {LOST: (True, LEAST, LEAST, ())} if has_mark else {})


def is_parting(entry):
    """Whether a pair is that of a term with the mark, and has results in one state alone."""
    flag, state, beside, _ = entry
    return flag and (state[1] == 0) != (beside[1] == 0)


def is_sparing(entry):
    """Whether a pair is that of a term with the mark, and has results in the first state alone."""
    flag, state, beside, _ = entry
    return flag and state[1] != 0 and beside[1] == 0


def pair_told(sides, entry):
    """The pair of an entry as it is told by tuples."""
    return (sides[0].maker.tuples_of(entry[1]), sides[1].maker.tuples_of(entry[2]))


def pair_sets(sides, flag, pair):
    """The entry of a pair that is told by tuples."""
    return (flag, sides[0].maker.sets_of(pair[0]), sides[1].maker.sets_of(pair[1]), ())


def is_pair_in(sides, value):
    """Whether the value is a pair of states of these books."""
    if not isinstance(value, tuple) or len(value) != 2:
        return False
    return is_state_in(sides[0].maker, value[0]) and is_state_in(sides[1].maker, value[1])


def are_pairs_in(sides, value):
    """Whether the value is an ascending tuple of such pairs."""
    return isinstance(value, tuple) and all([is_pair_in(sides, pair) for pair in value]) and ascends(value)
