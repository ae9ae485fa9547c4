"""Ways: how they are made of lines, and how they are walked.

A *run* is what becomes of one part: the nodes at first, the steps as triples of a place, a rule and nodes, the nodes
at last, and the greatest number of nodes in between.
"""

from firstneed.base.checks import is_ground_of, is_term_of
from firstneed.base.matching import filled_nodes, filling_parts
from firstneed.base.terms import MAX_NODES, Term
from firstneed.base.trees import part_at, with_part_at
from firstneed.base.words import ANY, is_index, is_leaf
from firstneed.need.facts import CAN, RULE
from firstneed.need.heads import bits_of, least_nodes

MAX_STEPS = 200


def still_run(nodes):
    """The run of a part in which nothing happens."""
    return (nodes, [], nodes, len(nodes))


def kept(run):
    """The run, or None if it goes beyond the bounds of a way."""
    return run if run is not None and len(run[1]) <= MAX_STEPS and run[3] <= MAX_NODES else None


def running_order(runs):
    """The indices of runs beside one another, such that they take little room: those first that give room back."""
    shrinking = []
    growing = []
    for at, (first, _, last, most) in enumerate(runs):
        if len(last) <= len(first):
            shrinking.append((most - len(first), at))
        else:
            growing.append((len(last) - most, at))
    return [at for _, at in sorted(shrinking) + sorted(growing)]


def shifted(steps, offset):
    """The steps of a part that begins so many nodes later."""
    return [(at + offset, rule, put) for at, rule, put in steps]


def beside(node, runs):
    """The run of a node whose arguments have these runs, one after the other."""
    sizes = [len(run[0]) for run in runs]
    steps = []
    most = 1
    for at in running_order(runs):
        steps.extend(shifted(runs[at][1], 1 + sum(sizes[:at])))
        most = max(most, 1 + sum(sizes) - sizes[at] + runs[at][3])
        sizes[at] = len(runs[at][2])
    first = joined_nodes(node, [run[0] for run in runs])
    last = joined_nodes(node, [run[2] for run in runs])
    return (first, steps, last, most)


def joined_nodes(node, parts):
    """The nodes of a node with these arguments."""
    found = [node]
    for part in parts:
        found.extend(part)
    return tuple(found)


def then_step(run, rule, further):
    """The run that goes on with a step at its root, and with the run of what this puts there."""
    steps = [*run[1], (0, rule, further[0]), *further[1]]
    return (run[0], steps, further[2], max(run[3], further[3]))


class Walks:
    """The runs of lines, made one by one; None for those beyond the bounds of a way."""

    def __init__(self, maker, spots, constant):
        self.maker = maker
        self.spots = spots
        self.constant = ((constant, 0),)

    def filled(self, nodes):
        """The nodes with a constant in the place of each leaf for anything."""
        return filled_nodes(nodes, [self.constant for sign, _ in nodes if sign == ANY])

    def leaf_run(self, fact):
        """The run of a leaf for anything, at which a fact holds from the beginning."""
        kind, what = fact
        if kind == CAN:
            return still_run(self.filled(self.maker.frame.part_nodes[what]))
        bits = bits_of(what)
        return still_run(least_nodes(self.maker.grown, bits)) if self.maker.grown[bits][0] <= MAX_NODES else None

    def run_of(self, line, used):
        """The run of a line; those of the lines that it uses are told by pairs of a place and a run."""
        place, fact, rule, _ = line
        if self.spots.signs[place] == ANY:
            return self.leaf_run(fact)
        if not all([run is not None for _, run in used]):
            return None
        runs = {at: run for at, run in used}
        below = self.spots.below[place]
        arguments = [runs[at] if at in runs else still_run(self.filled(self.spots.nodes_at(at))) for at in below]
        run = beside((self.spots.signs[place], len(below)), arguments)
        return run if rule is None else then_step(run, rule, runs[(RULE, rule, 0)])

    def last_run(self, lines):
        """The run of the last one of lines."""
        found = []
        for line in lines:
            used = [(lines[number][0], found[number]) for number in line[3]]
            found.append(kept(self.run_of(line, used)))
        return found[-1]


def way_told(run):
    """The way of a run."""
    return (Term(run[0]), tuple([(at, rule, Term(put)) for at, rule, put in run[1]]))


def is_start(term, value, symbols):
    """Whether the value is the term with ground terms in the place of its leaves for anything."""
    if not is_term_of(value, symbols):
        return False
    parts = filling_parts(value.nodes, term.nodes)
    return parts is not None and not any([is_leaf(sign) for part in parts for sign, _ in part])


def nodes_behind(book, nodes, value):
    """The nodes behind what should be a step, or None if it is none."""
    if not isinstance(value, tuple) or len(value) != 3:
        return None
    at, rule, put = value
    if not is_index(at, len(nodes)) or not is_index(rule, len(book)) or not is_ground_of(put, book.symbols):
        return None
    pattern, sketch = book[rule]
    if filling_parts(part_at(nodes, at), pattern.nodes) is None or filling_parts(put.nodes, sketch.nodes) is None:
        return None
    behind = with_part_at(nodes, at, put.nodes)
    return behind if len(behind) <= MAX_NODES else None


def end_nodes(book, term, value):
    """The nodes at the end of what should be a way from the term, or None if it is none."""
    if not isinstance(value, tuple) or len(value) != 2 or not is_start(term, value[0], book.symbols):
        return None
    start, steps = value
    if not isinstance(steps, tuple) or len(steps) > MAX_STEPS:
        return None
    nodes = start.nodes
    for step in steps:
        nodes = nodes_behind(book, nodes, step)
        if nodes is None:
            return None
    return nodes
