"""Trees, told as tuples of nodes in preorder.

A node is a pair of a sign and the number of its arguments. Nothing is asked of the signs here, so that trees with
other leaves than those of terms can be told as well.
"""


def makes_one_tree(nodes):
    """Whether these nodes are one tree, and nothing besides."""
    missing = 1
    for _, arity in nodes:
        if missing == 0:
            return False
        missing = missing - 1 + arity
    return missing == 0


def part_end(nodes, place):
    """The index behind the part at a place."""
    missing = 1
    at = place
    while missing > 0:
        missing = missing - 1 + nodes[at][1]
        at += 1
    return at


def part_at(nodes, place):
    """The nodes of the part at a place."""
    return nodes[place:part_end(nodes, place)]


def with_part_at(nodes, place, part):
    """The nodes of the tree with another part at a place."""
    return nodes[:place] + part + nodes[part_end(nodes, place):]


def arguments_at(nodes, place):
    """The places of the arguments of a node."""
    found = []
    at = place + 1
    for _ in range(nodes[place][1]):
        found.append(at)
        at = part_end(nodes, at)
    return tuple(found)


def places_above(nodes, place):
    """The places from the root to this one."""
    return tuple([at for at in range(place + 1) if part_end(nodes, at) > place])


def places_of(nodes, sign):
    """The places at which this sign stands."""
    return tuple([at for at, node in enumerate(nodes) if node[0] == sign])


def height_of(nodes):
    """The greatest number of nodes on a way from the root downwards."""
    heights = []
    for _, arity in reversed(list(nodes)):
        highest = max(heights[:arity], default=0)
        heights = [1 + highest] + heights[arity:]
    return heights[0]


def text_of(nodes):
    """The text of a tree."""
    texts = []
    for sign, arity in reversed(list(nodes)):
        inner = ", ".join(texts[:arity])
        whole = f"{sign}({inner})" if arity > 0 else sign
        texts = [whole] + texts[arity:]
    return texts[0]


def told_nodes(text):
    """The nodes of the tree with this text; if there is no such tree, any pairs.

    Who calls this compares the text of the nodes with the text that was told: so each fault shows.
    """
    signs = []
    arities = []
    pending = []
    for piece in text.split(", "):
        opening = piece.rstrip(")")
        for sign in opening.split("("):
            if pending:
                arities[pending[-1]] += 1
            pending.append(len(signs))
            signs.append(sign)
            arities.append(0)
        ended = 1 + len(piece) - len(opening)
        pending = pending[:max(0, len(pending) - ended)]
    return tuple(zip(signs, arities))
