"""What the symbols of a book make of their arguments, as far as its parts and its patterns ask.

Sets of parts, of rules and of classes are told as integers here: bit n is set if n is among them. The *items* of a
symbol are the parts that begin with it, and behind them the patterns that do; a *mask* is a set of items.
"""

from firstneed.base.parts import parts_below
from firstneed.base.trees import arguments_at, part_at
from firstneed.base.words import ANY, is_leaf


def bits_of(numbers):
    """The set of these numbers."""
    bits = 0
    for number in numbers:
        bits = bits | (1 << number)
    return bits


def numbers_in(bits):
    """The numbers in a set, ascending."""
    return tuple([number for number in range(bits.bit_length()) if bits >> number & 1])


class Head:
    """The items of a symbol. For each a row tells the part that it asks at each argument, or None for none."""

    def __init__(self, arity, part_rows, rule_rows):
        self.arity = arity
        self.part_rows = part_rows
        self.rule_rows = rule_rows
        self.rows = list(part_rows.values()) + list(rule_rows.values())
        self.whole = (1 << len(self.rows)) - 1
        self.rule_mask = self.whole - ((1 << len(part_rows)) - 1)

    def passing(self, at, parts):
        """The items that ask nothing at this argument but one of these parts."""
        mask = 0
        for item, row in enumerate(self.rows):
            if row[at] is None or parts >> row[at] & 1:
                mask = mask | (1 << item)
        return mask

    def meeting(self, sets):
        """The items for which each argument has the part that they ask there."""
        mask = self.whole
        for at, parts in enumerate(sets):
            mask = mask & self.passing(at, parts)
        return mask

    def parts_at(self, mask):
        """The parts among these items."""
        return bits_of([part for item, part in enumerate(self.part_rows) if mask >> item & 1])

    def rules_at(self, mask):
        """The indices of the rules among these items, ascending."""
        behind = mask >> len(self.part_rows)
        return tuple([rule for item, rule in enumerate(self.rule_rows) if behind >> item & 1])

    def is_redex(self, mask):
        """Whether there is a pattern among these items."""
        return mask & self.rule_mask != 0


class Frame:
    """The parts of a book, and the heads of its symbols."""

    def __init__(self, book):
        self.pattern_nodes = [pattern.nodes for pattern in book.patterns]
        self.part_nodes = parts_below(self.pattern_nodes)
        self.part_numbers = {nodes: number for number, nodes in enumerate(self.part_nodes)}
        self.heads = {word: self.head_of(word, arity) for word, arity in book.symbols.items()}

    def head_of(self, word, arity):
        """The head of a symbol."""
        part_rows = {number: self.row_of(nodes) for number, nodes in enumerate(self.part_nodes) if nodes[0][0] == word}
        rule_rows = {rule: self.row_of(nodes) for rule, nodes in enumerate(self.pattern_nodes) if nodes[0][0] == word}
        return Head(arity, part_rows, rule_rows)

    def row_of(self, nodes):
        """For each argument of a tree its number as a part, or None for the leaf for anything."""
        return [None if nodes[at][0] == ANY else self.part_numbers[part_at(nodes, at)] for at in arguments_at(nodes, 0)]

    def masks_of(self, nodes):
        """For each place the items that the part there is an instance of, or None at a leaf."""
        masks = []
        below = []
        for sign, arity in reversed(list(nodes)):
            mask = None if is_leaf(sign) else self.heads[sign].meeting(below[:arity])
            parts = 0 if mask is None else self.heads[sign].parts_at(mask)
            masks = [mask] + masks
            below = [parts] + below[arity:]
        return masks

    def class_of(self, nodes):
        """The class of a tree."""
        mask = self.masks_of(nodes)[0]
        return 0 if mask is None else self.heads[nodes[0][0]].parts_at(mask)

    def redexes_in(self, nodes):
        """The places at which a rule fits, ascending."""
        masks = self.masks_of(nodes)
        return [at for at, mask in enumerate(masks) if mask is not None and self.heads[nodes[at][0]].is_redex(mask)]


def both_costs(one, other, adds):
    """Two costs together: their sum, or else the larger one."""
    return one + other if adds else max(one, other)


def least_choices(whole, options, adds):
    """From each mask, that one option for each argument leaves, to the least cost with their names.

    Options are told as triples of a mask, a cost and a name.
    """
    found = {whole: (0, ())}
    for row in options:
        least = {}
        for mask, cost, name in row:
            if mask not in least or cost < least[mask][0]:
                least[mask] = (cost, name)
        found = crossed(found, least, adds)
    return found


def crossed(found, least, adds):
    """The choices that go on with one more argument."""
    grown = {}
    for mask, (cost, names) in found.items():
        for other, (further, name) in least.items():
            total = both_costs(cost, further, adds)
            if mask & other not in grown or total < grown[mask & other][0]:
                grown[mask & other] = (total, (*names, name))
    return grown


def results_made(head, found):
    """From the classes of results that a symbol makes of others to the least size, and to the classes of which.

    The others are told by a dict from classes to tuples that begin with a size.
    """
    options = [[(head.passing(at, bits), row[0], bits) for bits, row in found.items()] for at in range(head.arity)]
    choices = least_choices(head.whole, options, True)
    return {head.parts_at(mask): (cost + 1, classes)
            for mask, (cost, classes) in choices.items() if not head.is_redex(mask)}


def grown_results(frame):
    """From each class of results to a triple: the size of the least ones, and how one is made: a symbol and classes."""
    found = {}
    going = True
    while going:
        going = False
        for word, head in frame.heads.items():
            made = results_made(head, found)
            for bits, (size, classes) in made.items():
                if bits not in found or size < found[bits][0]:
                    found[bits] = (size, word, classes)
                    going = True
    return found


def least_nodes(grown, bits):
    """The nodes of a result of this class with the fewest nodes, which are at most forty."""
    _, word, classes = grown[bits]
    found = [(word, len(classes))]
    for inner in classes:
        found.extend(least_nodes(grown, inner))
    return tuple(found)
