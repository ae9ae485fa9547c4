"""Rows, which tell large terms shortly."""

from firstneed.base.terms import MAX_NODES, Term
from firstneed.base.trees import arguments_at, part_at, part_end
from firstneed.base.words import ANY, LOST, is_index, is_word
from firstneed.errors import TooMany

MAX_ROWS = 4000


def are_rows(value, symbols, is_open):
    """Whether the value is rows of these symbols, and of the leaf for anything if it is let."""
    return are_rows_with(value, symbols, (ANY,) if is_open else ())


def are_rows_with(value, symbols, leaves):
    """Whether the value is rows of these symbols and leaves."""
    if not isinstance(value, tuple) or not 1 <= len(value) <= MAX_ROWS:
        return False
    return all([is_row(row, index, symbols, leaves) for index, row in enumerate(value)])


def is_row(value, index, symbols, leaves):
    """Whether the value is a row that can stand at this index."""
    if not isinstance(value, tuple) or len(value) != 2:
        return False
    sign, uses = value
    if not isinstance(uses, tuple) or not all([is_index(use, index) for use in uses]):
        return False
    if is_word(sign):
        return symbols.get(sign) == len(uses)
    return sign in leaves and uses == ()


def has_one_mark(rows):
    """Whether there is just one row of the mark `#`, and the term of the rows has it just once."""
    if [sign for sign, _ in rows].count(LOST) != 1:
        return False
    counts = []
    for sign, uses in rows:
        below = sum([counts[use] for use in uses])
        # More than two need not be told apart: in large terms there would be very many.
        counts.append(1 if sign == LOST else min(2, below))
    return counts[-1] == 1


def nodes_of_rows(rows):
    """The nodes of the term of rows, or None if it has more than forty."""
    found = []
    for sign, uses in rows:
        parts = [found[use] for use in uses]
        if None in parts or sum([len(part) for part in parts]) >= MAX_NODES:
            found.append(None)
        else:
            found.append(((sign, len(parts)), *[node for part in parts for node in part]))
    return found[-1]


def term_of_rows(rows):
    """The term of rows, if it has at most forty nodes."""
    nodes = nodes_of_rows(rows)
    if nodes is None:
        raise TooMany(MAX_NODES)
    return Term(nodes)


def rows_of_nodes(nodes):
    """The rows of a tree: each part once, in the order in which the parts end."""
    numbers = {}
    rows = []
    # Of parts that end together the inner ones stand first.
    for _, before in sorted([(part_end(nodes, place), -place) for place in range(len(nodes))]):
        part = part_at(nodes, -before)
        if part not in numbers:
            numbers[part] = len(rows)
            uses = [numbers[part_at(part, at)] for at in arguments_at(part, 0)]
            rows.append((part[0][0], tuple(uses)))
    return tuple(rows)


def rows_upto(rows, index):
    """The rows that lead to one of them, which is the last one then."""
    wanted = {index: True}
    for number in range(index, -1, -1):
        if number in wanted:
            wanted.update({use: True for use in rows[number][1]})
    numbers = {old: new for new, old in enumerate(sorted(wanted))}
    return tuple([(rows[old][0], tuple([numbers[use] for use in rows[old][1]])) for old in numbers])
