"""The sketches that lie between two others: what can be known of a right side."""

from firstneed.base.matching import filling_parts
from firstneed.base.trees import arguments_at, part_at, text_of
from firstneed.base.words import ANY, is_index

NOTHING = ((ANY, 0),)


def all_rows(options):
    """All rows with one of the options at each index; options further ahead change last."""
    rows = [()]
    for row in options:
        rows = [(*begun, option) for begun in rows for option in row]
    return rows


def opened_trees(nodes):
    """All trees of which this one is an instance."""
    if nodes == NOTHING:
        return [NOTHING]
    parts = [opened_trees(part_at(nodes, at)) for at in arguments_at(nodes, 0)]
    return [NOTHING] + [(nodes[0], *[node for part in row for node in part]) for row in all_rows(parts)]


def trees_between(low, high):
    """All trees that are instances of the first one, and of which the second one is an instance, by their texts."""
    found = {text_of(nodes): nodes for nodes in opened_trees(high) if filling_parts(nodes, low) is not None}
    return [found[text] for text in sorted(found)]


def is_tip(nodes, at):
    """Whether there is a symbol at this place whose arguments are all leaves for anything."""
    return nodes[at][0] != ANY and all([nodes[inner][0] == ANY for inner in arguments_at(nodes, at)])


def is_tip_of(rules, rule, node):
    """Whether these are the index of a rule and a node of its sketch that is a tip."""
    if not is_index(rule, len(rules)):
        return False
    nodes = rules[rule][1].nodes
    return is_index(node, len(nodes)) and is_tip(nodes, node)
