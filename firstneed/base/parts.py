"""The parts of patterns."""

from firstneed.base.trees import part_at, text_of
from firstneed.base.words import ANY


def parts_below(patterns):
    """The different parts below the roots of these trees, but the leaf for anything, ascending by their texts."""
    found = {}
    for nodes in patterns:
        for place in range(1, len(nodes)):
            part = part_at(nodes, place)
            if part[0][0] != ANY:
                found[text_of(part)] = part
    return [found[text] for text in sorted(found)]
