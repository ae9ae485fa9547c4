"""What the tests share: values of all kinds, small terms, and a second, slower reading of the document.

The second reading tells trees as nested tuples (sign, argument, ..) and uses nothing of the package but its names.
"""

import re

from firstneed.base.terms import Term
from firstneed.errors import InvalidTerm, UnknownPlace

SIGN = re.compile(r"[a-z]{1,8}|_|#")


def nested(value, depth):
    """The value in so many tuples, lists and dicts."""
    for level in range(depth):
        value = ((value,), [value], {"a": value})[level % 3]
    return value


def all_kinds():
    """Values of every kind that may be passed, new ones at each call."""
    return [
        None, True, False, 0, 1, 2, 3, 4, -1, 40, 10 ** 59, 10 ** 60 - 1, 10 ** 60, -(10 ** 60), 10 ** 100 - 1,
        "", "a", "f", "_", "#", "A", "f(a)", "f(a, b", "abcdefgh", "abcdefghi", "a b", "a\n", "0", "x" * 9000,
        "f(" * 4500, ")" * 9000, ", " * 4500, "".join([chr(code) for code in range(32, 127)]),
        (), ("a",), ("a", 0), ("_", 0), ("#", 0), ("f", True), ("a", 0, 0), (("a", 0),), (("f", 1), ("a", 0)),
        [], ["a", 0], [("a", 0)], {}, {"a": 0}, {"a": "b"}, {0: "a"}, {None: None}, {("a", 0): 1}, {"a": True},
        nested(1, 8), nested("a", 8), nested((), 8), nested(("f", 1), 7), nested({}, 8),
        Term.build("a"), Term.build("_"), Term.build("f", Term.build("#")), [Term.build("a")], {"a": Term.build("a")},
        InvalidTerm("a"), UnknownPlace(0),
    ]


def raised(call, *given):
    """The error that the call raises, whatever it is."""
    try:
        got = call(*given)
    except Exception as error:
        return error
    raise AssertionError(f"no error, but {got!r}")


def chain(size):
    """The text of a term with so many nodes, each below the one ahead of it."""
    return "g(" * (size - 1) + "a" + ")" * (size - 1)


def bush(size):
    """The text of a term with so many nodes, of which as many as possible have three arguments."""
    text, nodes = "a", 1
    while nodes + 3 <= size:
        text, nodes = f"h(a, {text}, a)", nodes + 3
    while nodes < size:
        text, nodes = f"g({text})", nodes + 1
    return text


def told(text):
    """The nested tree with this text, or None."""
    found = told_from(text, 0)
    if found is None or found[1] != len(text) or size_of(found[0]) > 40:
        return None
    return found[0]


def told_from(text, start):
    match = SIGN.match(text, start)
    if match is None:
        return None
    tree, at = [match.group()], match.end()
    mark = "("
    while text.startswith(mark, at):
        inner = told_from(text, at + len(mark))
        if inner is None or len(tree) == 4 or tree[0] in ("_", "#"):
            return None
        tree.append(inner[0])
        at, mark = inner[1], ", "
    if mark == "(":
        return tuple(tree), at
    return (tuple(tree), at + 1) if text.startswith(")", at) else None


def size_of(tree):
    return 1 + sum(size_of(inner) for inner in tree[1:])


def nodes_of(tree):
    """The nodes of a nested tree in preorder."""
    nodes = [(tree[0], len(tree) - 1)]
    for inner in tree[1:]:
        nodes.extend(nodes_of(inner))
    return tuple(nodes)


def text_of(tree):
    """The text of a nested tree."""
    if len(tree) == 1:
        return tree[0]
    return tree[0] + "(" + ", ".join([text_of(inner) for inner in tree[1:]]) + ")"


def parts_of(tree):
    """The parts of a nested tree by their places."""
    parts = [tree]
    for inner in tree[1:]:
        parts.extend(parts_of(inner))
    return parts


def fits(tree, general):
    """Whether a nested tree is an instance of another one."""
    if general[0] == "_":
        return True
    if tree[0] != general[0] or len(tree) != len(general):
        return False
    return all(fits(one, other) for one, other in zip(tree[1:], general[1:]))


def takes_of(tree, general):
    """The parts that stand at the leaves `_` of the more general tree."""
    if general[0] == "_":
        return [tree]
    return [part for one, other in zip(tree[1:], general[1:]) for part in takes_of(one, other)]


def meet(one, other):
    """The most general common instance of nested trees, or None."""
    if one[0] == "_":
        return other
    if other[0] == "_":
        return one
    if one[0] != other[0] or len(one) != len(other):
        return None
    inner = [meet(left, right) for left, right in zip(one[1:], other[1:])]
    return None if None in inner else (one[0], *inner)


def join(one, other):
    """The nested tree that two of them share from the root downwards."""
    if one[0] != other[0] or len(one) != len(other):
        return ("_",)
    return (one[0], *[join(left, right) for left, right in zip(one[1:], other[1:])])


def small_trees(leaves, most):
    """All nested trees of g/1, f/2 and these leaves with at most so many nodes, ascending by their sizes."""
    by_size = {1: [(leaf,) for leaf in leaves]}
    for size in range(2, most + 1):
        rows = [("g", inner) for inner in by_size[size - 1]]
        for first in range(1, size - 1):
            rows += [("f", one, other) for one in by_size[first] for other in by_size[size - 1 - first]]
        by_size[size] = rows
    return [tree for size in sorted(by_size) for tree in by_size[size]]


def term_of(tree):
    """The term of a nested tree."""
    return Term(nodes_of(tree))
