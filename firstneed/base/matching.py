"""How two trees with leaves for anything fit each other. Trees are tuples of nodes here."""

from firstneed.base.trees import part_at, part_end
from firstneed.base.words import ANY


def filled_nodes(nodes, parts):
    """The tree with one part in the place of each leaf for anything, in their order."""
    found = []
    used = 0
    for node in nodes:
        if node[0] == ANY:
            found.extend(parts[used])
            used += 1
        else:
            found.append(node)
    return tuple(found)


def filling_parts(nodes, general):
    """The parts that fill the more general tree to give the first one, or None if none do."""
    found = []
    at = 0
    for node in general:
        if node[0] == ANY:
            part = part_at(nodes, at)
            found.append(part)
            at = at + len(part)
        elif nodes[at] == node:
            at += 1
        else:
            return None
    return found


def common_instance(one, other):
    """The most general tree that is an instance of both, or None."""
    found = []
    at = 0
    beside = 0
    while at < len(one):
        end, behind = at + 1, beside + 1
        if one[at][0] == ANY:
            behind = part_end(other, beside)
            found.extend(other[beside:behind])
        elif other[beside][0] == ANY:
            end = part_end(one, at)
            found.extend(one[at:end])
        elif one[at] == other[beside]:
            found.append(one[at])
        else:
            return None
        at, beside = end, behind
    return tuple(found)


def common_pattern(one, other):
    """The tree with a leaf for anything at each outermost place where the two have unlike nodes."""
    found = []
    at = 0
    beside = 0
    while at < len(one):
        if one[at] == other[beside]:
            found.append(one[at])
            at += 1
            beside += 1
        else:
            found.append((ANY, 0))
            at = part_end(one, at)
            beside = part_end(other, beside)
    return tuple(found)


def leaves_beside(nodes, pattern):
    """The places at which the tree has a leaf for anything, and the pattern, which it meets, has another node."""
    found = []
    at = 0
    beside = 0
    while at < len(nodes):
        end, behind = at + 1, beside + 1
        if nodes[at][0] == ANY:
            behind = part_end(pattern, beside)
            if pattern[beside][0] != ANY:
                found.append(at)
        elif pattern[beside][0] == ANY:
            end = part_end(nodes, at)
        at, beside = end, behind
    return found
