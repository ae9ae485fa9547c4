"""What the symbols of a book make of entries.

An entry is told by sets here: (class, flag, state, around). What a symbol asks of it at one of its arguments is a
*strand*, of the same form: the items that its class leaves, its flag, the view of its state, and the least views of
the states around. Strands are joined argument by argument, and what is joined makes an entry in the end. Of entries,
and of strands likewise, only the worst count: those that no other one covers.
"""

from firstneed.base.words import ANY
from firstneed.need.making import LEAST, is_within


def least_of(pairs):
    """Those pairs of sets that have no other ones within them, each once, ascending."""
    found = []
    for pair in sorted(set(pairs)):
        # What is within a pair of sets stands ahead of it.
        if not is_any_within(found, pair):
            found.append(pair)
    return tuple(found)


def is_any_within(pairs, other):
    """Whether one of these pairs of sets is within the other one."""
    for pair in pairs:
        if is_within(pair, other):
            return True
    return False


def does_outdo(pairs, others):
    """Whether for each of these pairs of sets one of the others is within it."""
    for pair in pairs:
        if not is_any_within(others, pair):
            return False
    return True


class Worst:
    """Entries, or strands, with names: those that no other one covers."""

    def __init__(self):
        self.groups = {}
        self.count = 0

    def has_cover(self, entry):
        """Whether one that is kept covers this one."""
        for pairs, _ in self.groups.get(entry[:3], []):
            if does_outdo(pairs, entry[3]):
                return True
        return False

    def take(self, entry, name):
        """Keeps this one unless one that is kept covers it, and tells whether it does."""
        if self.has_cover(entry):
            return False
        rows = self.groups.get(entry[:3], [])
        left = [row for row in rows if not does_outdo(entry[3], row[0])]
        self.groups[entry[:3]] = [*left, (entry[3], name)]
        self.count = self.count + len(left) + 1 - len(rows)
        return True

    def kept(self):
        """The pairs of what is kept and of its name."""
        return [((*key, pairs), name) for key, rows in self.groups.items() for pairs, name in rows]


class Loom:
    """What one symbol makes of entries that come one after the other."""

    def __init__(self, maker, word, roots):
        self.maker = maker
        self.word = word
        self.root_states = roots
        self.gate = maker.gates[word]
        self.arity = maker.frame.heads[word].arity
        self.pools = [Worst() for _ in range(self.arity)]
        self.stages = [Worst() for _ in range(self.arity + 1)]
        self.unit = (self.gate.head.whole, False, self.gate.unit, ())
        self.stages[0].take(self.unit, ())

    def strand_of(self, at, entry):
        """What the symbol asks of an entry at this argument."""
        row, flag, state, around = entry
        views = [self.gate.view(at, other) for other in around]
        return (self.gate.head.passing(at, row), flag, self.gate.view(at, state), least_of(views))

    def joined(self, one, other):
        """The strand of the arguments of both strands."""
        # Only one of the arguments has the hole.
        views = [self.gate.joint_of(view, other[2]) for view in one[3]]
        views.extend([self.gate.joint_of(one[2], view) for view in other[3]])
        return (one[0] & other[0], one[1] or other[1], self.gate.joint_of(one[2], other[2]), least_of(views))

    def fed(self, entry, name):
        """The pairs of an entry that comes of this one, and of the names of those of which it is made."""
        found = []
        for at in range(self.arity):
            strand = self.strand_of(at, entry)
            if self.pools[at].take(strand, name):
                beginnings = self.stages[at].kept()
                for begun, names in beginnings:
                    found.extend(self.going_on(self.joined(begun, strand), (*names, name)))
        return found

    def going_on(self, strand, names):
        """The pairs that come of a strand of the first arguments."""
        stage = len(names)
        if not self.stages[stage].take(strand, names):
            return []
        if stage == self.arity:
            return [(self.ended(strand), names)]
        found = []
        others = self.pools[stage].kept()
        for further, name in others:
            found.extend(self.going_on(self.joined(strand, further), (*names, name)))
        return found

    def made_of(self, entries):
        """The entry that comes of entries of all arguments."""
        strand = self.unit
        for at, entry in enumerate(entries):
            strand = self.joined(strand, self.strand_of(at, entry))
        return self.ended(strand)

    def ended(self, strand):
        """The entry that comes of a strand of all arguments."""
        mask, flag, view, views = strand
        is_redex = self.gate.head.is_redex(mask)
        state = self.maker.ended(self.gate, view, self.root_states)
        around = [self.maker.ended(self.gate, one, self.root_states) for one in views]
        # With a hole in the place of the whole term nothing is left.
        least = (LEAST,) if is_redex else least_of(around)
        return (self.gate.head.parts_at(mask), flag or is_redex, state, least)


class Looms:
    """What all symbols of a book make of entries, where the roots of the sketches have these states."""

    def __init__(self, maker, roots):
        self.maker = maker
        self.looms = {word: Loom(maker, word, roots) for word in maker.gates}

    def made_of(self, sign, entries):
        """The entry that a sign makes of these."""
        return (0, True, self.maker.most, (LEAST,)) if sign == ANY else self.looms[sign].made_of(entries)

    def beginnings(self, is_open):
        """The triples of an entry that is made of nothing, of its sign and of no names."""
        signs = [word for word, loom in self.looms.items() if loom.arity == 0]
        return [(self.made_of(sign, []), sign, ()) for sign in signs + ([ANY] if is_open else [])]

    def fed(self, entry, name):
        """The triples of an entry that comes of this one, of the symbol and of the names of which it is made."""
        return [(made, word, names) for word, loom in self.looms.items() for made, names in loom.fed(entry, name)]

    def entry_of(self, nodes):
        """The entry of a tree."""
        below = []
        for sign, arity in reversed(list(nodes)):
            below = [self.made_of(sign, below[:arity])] + below[arity:]
        return below[0]

    def entry_of_rows(self, rows):
        """The entry of the term of rows."""
        found = []
        for sign, uses in rows:
            found.append(self.made_of(sign, [found[use] for use in uses]))
        return found[-1]
