"""What the symbols of a book make of entries that come one after the other.

What a symbol asks of an entry at one of its arguments is a *strand*. Strands are joined argument by argument, and what
is joined makes an entry in the end. Both are told as tuples of four: three that are compared as they are, and a tuple
of pairs of sets, of which the least ones count. Only the worst are kept: those that no other one covers.
"""

from firstneed.need.making import is_within


def least_of(pairs):
    """Those pairs of sets that have no other ones within them, each once, ascending."""
    found = []
    for pair in sorted(set(pairs)):
        # What is within a pair of sets stands ahead of it.
        if not is_any_within(found, pair):
            found.append(pair)
    return tuple(found)


def is_any_within(pairs, other):
    """Whether one of these pairs of sets is within the other one."""
    for pair in pairs:
        if is_within(pair, other):
            return True
    return False


def does_outdo(pairs, others):
    """Whether for each of these pairs of sets one of the others is within it."""
    for pair in pairs:
        if not is_any_within(others, pair):
            return False
    return True


class Worst:
    """Entries, or strands, with names: those that no other one covers."""

    def __init__(self):
        self.groups = {}
        self.count = 0

    def has_cover(self, entry):
        """Whether one that is kept covers this one."""
        for pairs, _ in self.groups.get(entry[:3], []):
            if does_outdo(pairs, entry[3]):
                return True
        return False

    def take(self, entry, name):
        """Keeps this one unless one that is kept covers it, and tells whether it does."""
        if self.has_cover(entry):
            return False
        rows = self.groups.get(entry[:3], [])
        left = [row for row in rows if not does_outdo(entry[3], row[0])]
        self.groups[entry[:3]] = [*left, (entry[3], name)]
        self.count = self.count + len(left) + 1 - len(rows)
        return True

    def kept(self):
        """The pairs of what is kept and of its name."""
        return [((*key, pairs), name) for key, rows in self.groups.items() for pairs, name in rows]


class Loom:
    """What one symbol makes of entries. Its strands are told by an object of their own.

    This has the strand of no arguments as `unit`, and the methods `strand_of`, `both_of` and `entry_from`. What
    `both_of` tells of two strands can be None: then nothing is made of them.
    """

    def __init__(self, strands, arity):
        self.strands = strands
        self.arity = arity
        self.pools = [Worst() for _ in range(arity)]
        self.stages = [Worst() for _ in range(arity + 1)]
        self.stages[0].take(strands.unit, ())

    def fed(self, entry, name):
        """The pairs of an entry that comes of this one, and of the names of those of which it is made."""
        found = []
        for at in range(self.arity):
            strand = self.strands.strand_of(at, entry)
            if self.pools[at].take(strand, name):
                beginnings = self.stages[at].kept()
                for begun, names in beginnings:
                    found.extend(self.going_on(self.strands.both_of(begun, strand), (*names, name)))
        return found

    def going_on(self, strand, names):
        """The pairs that come of a strand of the first arguments."""
        stage = len(names)
        if strand is None or not self.stages[stage].take(strand, names):
            return []
        if stage == self.arity:
            return [(self.strands.entry_from(strand), names)]
        found = []
        others = self.pools[stage].kept()
        for further, name in others:
            found.extend(self.going_on(self.strands.both_of(strand, further), (*names, name)))
        return found

    def made_of(self, entries):
        """The entry that comes of entries of all arguments."""
        strand = self.strands.unit
        for at, entry in enumerate(entries):
            strand = self.strands.both_of(strand, self.strands.strand_of(at, entry))
        return self.strands.entry_from(strand)


class Looms:
    """What all symbols make of entries, and of leaves, which have entries of their own."""

    def __init__(self, looms, leaves):
        self.looms = looms
        self.leaves = leaves

    def made_of(self, sign, entries):
        """The entry that a sign makes of these."""
        return self.leaves[sign] if sign in self.leaves else self.looms[sign].made_of(entries)

    def beginnings(self):
        """The triples of an entry that is made of nothing, of its sign and of no names."""
        signs = [word for word, loom in self.looms.items() if loom.arity == 0]
        return [(self.made_of(sign, []), sign, ()) for sign in signs + list(self.leaves)]

    def fed(self, entry, name):
        """The triples of an entry that comes of this one, of the symbol and of the names of which it is made."""
        return [(made, word, names) for word, loom in self.looms.items() for made, names in loom.fed(entry, name)]

    def entry_of(self, nodes):
        """The entry of a tree."""
        below = []
        for sign, arity in reversed(list(nodes)):
            below = [self.made_of(sign, below[:arity])] + below[arity:]
        return below[0]

    def entry_of_rows(self, rows):
        """The entry of the term of rows."""
        found = []
        for sign, uses in rows:
            found.append(self.made_of(sign, [found[use] for use in uses]))
        return found[-1]


def has_all_made(looms, entries):
    """Whether these entries cover all that looms, which are new, make of nothing and of them."""
    worst = Worst()
    for entry in entries:
        worst.take(entry, None)
    made = [entry for entry, _, _ in looms.beginnings()]
    for entry in entries:
        made.extend([further for further, _, _ in looms.fed(entry, None)])
    return all([worst.has_cover(entry) for entry in made])
