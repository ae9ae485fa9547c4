"""A second, slower reading of the document, against which the package is compared.

Trees are nested tuples here, as in `tests.helper`; sets are sets, and whatever can be tried is tried.
"""

from itertools import product

from tests.helper import fits, parts_of, size_of, text_of


def nested(nodes):
    """The nested tree with these nodes."""
    def from_here(at):
        word, arity = nodes[at]
        tree, at = [word], at + 1
        for _ in range(arity):
            inner, at = from_here(at)
            tree.append(inner)
        return tuple(tree), at
    return from_here(0)[0]


def rules_of(book):
    """The rules of a book as pairs of nested trees."""
    return [(nested(pattern.nodes), nested(sketch.nodes)) for pattern, sketch in book]


def book_parts(book):
    """[5.1]: the parts of a book as nested trees."""
    found = {inner for pattern, _ in rules_of(book) for inner in parts_of(pattern)[1:] if inner != ("_",)}
    return sorted(found, key=text_of)


def class_of(book, tree):
    """[5.1]: the class of a tree."""
    return tuple(at for at, part in enumerate(book_parts(book)) if fits(tree, part))


def is_redex(book, tree):
    return any(fits(tree, pattern) for pattern, _ in rules_of(book))


def is_ground(tree):
    return all(inner[0] not in ("_", "#") for inner in parts_of(tree))


def is_result(book, tree):
    return is_ground(tree) and not any(is_redex(book, inner) for inner in parts_of(tree))


def trees_upto(symbols, most, leaves=()):
    """All trees of these symbols and leaves with at most so many nodes, ascending by their sizes."""
    by_size = {}
    for size in range(1, most + 1):
        rows = [(leaf,) for leaf in leaves] if size == 1 else []
        for word, arity in symbols.items():
            rows += [(word, *inner) for inner in rows_of_trees(by_size, arity, size - 1)]
        by_size[size] = rows
    return [tree for rows in by_size.values() for tree in rows]


def rows_of_trees(by_size, arity, total):
    if arity == 0:
        return [()] if total == 0 else []
    return [(first, *others) for size in range(1, total - arity + 2) for first in by_size[size]
            for others in rows_of_trees(by_size, arity - 1, total - size)]


def few_trees(symbols, many, leaves=()):
    """All trees up to the greatest size for which there are not too many."""
    found = []
    for most in range(1, 8):
        further = trees_upto(symbols, most, leaves)
        if len(further) > many:
            break
        found = further
    return found


def with_tree(tree, place, other):
    """The tree with another one at a place."""
    if place == 0:
        return other
    at, inner = 1, list(tree)
    for index in range(1, len(tree)):
        size = size_of(tree[index])
        if at <= place < at + size:
            inner[index] = with_tree(tree[index], place - at, other)
        at += size
    return tuple(inner)


def filled_trees(tree, choices):
    """All trees with one of the choices in the place of each leaf `_`."""
    if tree[0] == "_":
        return list(choices)
    return [(tree[0], *inner) for inner in product(*[filled_trees(one, choices) for one in tree[1:]])]


def steps_of(book, tree, choices):
    """All trees behind a step that puts in some of the choices."""
    return [with_tree(tree, place, put) for place, inner in enumerate(parts_of(tree))
            for pattern, sketch in rules_of(book) if fits(inner, pattern) for put in filled_trees(sketch, choices)]


def reached(book, tree, choices, most, limit):
    """All trees of at most so many nodes to which steps lead that put in some of the choices, up to a limit."""
    found = {start: True for start in filled_trees(tree, choices) if size_of(start) <= most}
    waiting = list(found)
    while waiting and len(found) < limit:
        for behind in steps_of(book, waiting.pop(0), choices):
            if behind not in found and size_of(behind) <= most:
                found[behind] = True
                waiting.append(behind)
    return list(found)


class States:
    """[0.15]: the states of terms, by rounds over the sketches; told by sets."""

    def __init__(self, book, results, table=None):
        self.book, self.results, self.table = book, set(results), table
        self.parts, self.rules = book_parts(book), rules_of(book)
        self.sketches = {}
        for rule, (_, sketch) in enumerate(self.rules):
            for place in range(size_of(sketch)):
                self.sketches[(rule, place)] = (set(), set())
        if table is not None:
            self.sketches = {key: (set(can), set(res)) for key, (can, res) in table.items()}

    def close(self):
        """Rounds, until nothing comes."""
        while True:
            before = {key: (set(can), set(res)) for key, (can, res) in self.sketches.items()}
            for (rule, place), state in self.sketches.items():
                can, res = self.made_at(rule, place)
                state[0].update(can)
                state[1].update(res)
            if before == self.sketches:
                return self

    def made_at(self, rule, place):
        """[6.2]: what the table makes of the part at a node, with its own states at the arguments."""
        tree = parts_of(self.rules[rule][1])[place]
        below, at = [], place + 1
        for inner in tree[1:]:
            below.append(self.sketches[(rule, at)])
            at += size_of(inner)
        return self.made(tree[0], below)

    def has(self, asked, state):
        """Whether something can become an instance of what is asked: `_` or a part."""
        return asked == ("_",) or self.parts.index(asked) in state[0]

    def fits(self, word, asked, below):
        return asked[0] == word and all(self.has(one, state) for one, state in zip(asked[1:], below))

    def made(self, word, below):
        """The state of a term with this sign, whose arguments have these states."""
        if word == "_":
            return set(range(len(self.parts))), set(self.results)
        if word == "#":
            return set(), set()
        can = {at for at, part in enumerate(self.parts) if self.fits(word, part, below)}
        res = set()
        for classes in product(*[state[1] for state in below]):
            inner = [(set(row), set()) for row in classes]
            if not any(self.fits(word, pattern, inner) for pattern, _ in self.rules):
                res.add(tuple(at for at, part in enumerate(self.parts) if self.fits(word, part, inner)))
        for rule, (pattern, _) in enumerate(self.rules):
            if self.fits(word, pattern, below):
                can |= self.sketches[(rule, 0)][0]
                res |= self.sketches[(rule, 0)][1]
        return can, res

    def state(self, tree):
        return self.made(tree[0], [self.state(inner) for inner in tree[1:]])

    def told(self, tree):
        """The state of a tree as the package tells it."""
        return told(self.state(tree))


def told(state):
    return tuple(sorted(state[0])), tuple(sorted(state[1]))


def all_result_classes(book):
    """[5.2]: the classes of results, by rounds over classes that know nothing of terms."""
    states = States(book, ())
    found = set()
    while True:
        below = (set(range(len(states.parts))), found)
        made = set()
        for word, arity in book.symbols.items():
            for classes in product(*[sorted(found)] * arity):
                inner = [(set(row), set()) for row in classes]
                if not any(states.fits(word, pattern, inner) for pattern, _ in states.rules):
                    made.add(tuple(at for at, part in enumerate(states.parts) if states.fits(word, part, inner)))
        if made <= below[1]:
            return tuple(sorted(found))
        found |= made
