"""Books and terms that the tests share: those of the document, small ones of all kinds, and ones by chance.

Chance is that of `random.Random` with a fixed seed, so that each run of the tests sees the same books.
"""

import random

from firstneed.base.books import Book
from firstneed.base.programs import Program
from firstneed.base.terms import Term
from firstneed.errors import InvalidBook
from tests.helper import all_kinds

GUS = Book.read("symbols a 0 b 0 f 3 g 0", "f(a, b, _) => _", "f(_, a, b) => _", "f(b, _, a) => _", "g => _")
SEQ = Book.read("symbols a 0 b 0 f 2 g 0", "f(a, _) => _", "f(b, a) => _", "g => _")
COND = Book.read("symbols c 3 k 1 n 0 t 0", "c(t, _, _) => _", "c(n, _, _) => _", "k(_) => t")
PLUS = Program.from_lines({"o": 0, "s": 1, "add": 2, "dup": 1}, "add(o, X) => X", "add(s(X), Y) => s(add(X, Y))",
                          "dup(X) => add(X, X)")

# Books of which each has something that the others have not.
SPECIAL = [
    GUS, SEQ, COND, PLUS.full(),
    Book({"a": 0}), Book({"a": 0, "f": 1}), Book({"a": 0, "b": 0, "f": 2, "g": 3}),
    # no results at all
    Book.read("symbols a 0", "a => a"), Book.read("symbols a 0 f 2", "a => _", "f(_, _) => a"),
    # a pattern that is a part of another one, and one that is an instance of another one
    Book.read("symbols a 0 b 0 f 2", "f(f(a, _), b) => a", "f(a, _) => b", "f(a, b) => f(_, b)"),
    # loops, and growth
    Book.read("symbols a 0 b 0 f 1", "a => f(a)", "f(f(_)) => b"), Book.read("symbols a 0 b 0", "a => b", "b => a"),
    Book.read("symbols a 0 f 1 g 1", "f(_) => f(f(_))", "g(f(_)) => a"),
    # results that come of redexes below
    Book.read("symbols a 0 b 0 c 0 f 2", "a => b", "f(b, _) => c", "f(_, b) => _"),
    Book.read("symbols a 0 b 0 g 0 h 2 k 1", "h(a, _) => k(_)", "h(_, a) => k(b)", "k(b) => a", "g => h(_, g)"),
    Book.read("symbols a 0 b 0 f 3 g 0 h 1 k 1", "h(f(a, _, _)) => a", "h(f(_, a, _)) => b", "h(f(_, _, a)) => a",
              "k(f(b, _, _)) => b", "k(f(_, b, _)) => b", "g => h(_)"),
]

# As large as books can be: six rules, sides of seven nodes, ten parts, eight words.
LARGE = Book.read("symbols a 0 b 0 c 0 d 0 f 2 g 1 h 3 k 1", "h(f(a, b), c, d) => h(f(_, a), _, d)",
                  "f(g(a), k(b)) => f(_, g(k(_)))", "k(g(k(_))) => h(a, _, b)", "g(f(_, c)) => k(_)",
                  "h(_, d, g(a)) => _", "k(d) => g(g(g(_)))")


def no_books():
    """Values that are no books, new ones at each call."""
    return [value for value in all_kinds()] + [SEQ.lines, SEQ.rules, SEQ.symbols, PLUS, (SEQ,)]


def term(text):
    """The term with this text."""
    return Term.read(text)


def terms(*texts):
    """The tuple of the terms with these texts."""
    return tuple(Term.read(text) for text in texts)


def chance_nodes(chance, symbols, size, share, leaves=("_",)):
    """The nodes of a term by chance, with at most so many nodes, and with a share of leaves below the root."""
    words = [word for word, arity in symbols.items() if arity < size]
    word = chance.choice(words)
    nodes, left = [(word, symbols[word])], size - 1
    for rest in range(symbols[word] - 1, -1, -1):
        part = ((chance.choice(leaves), 0),)
        if not leaves or chance.random() >= share:
            part = chance_nodes(chance, symbols, chance.randint(1, left - rest), share, leaves)
        nodes += part
        left -= len(part)
    return tuple(nodes)


def chance_term(chance, symbols, size, share=0.3, leaves=("_",)):
    """A term by chance, with at most so many nodes; ground without leaves."""
    if leaves and chance.random() < 0.05:
        return Term(((chance.choice(leaves), 0),))
    return Term(chance_nodes(chance, symbols, size, share if leaves else 0, leaves or ("_",)))


def chance_book(chance, words=5, rules=6, size=7):
    """A book by chance."""
    while True:
        arities = chance.choice([(0, 0, 1, 2), (0, 1, 2, 3), (0, 0, 2, 2), (0, 1, 1, 1)])
        symbols = {"abcdefgh"[at]: chance.choice(arities) for at in range(chance.randint(1, words))}
        symbols["a"] = 0
        share, known = chance.choice([0.3, 0.5, 0.7]), chance.random()
        found = {}
        for _ in range(chance.randint(0, rules)):
            pattern = Term(chance_nodes(chance, symbols, chance.randint(1, size), share))
            sketch = Term.build("_")
            if chance.random() < known:
                sketch = Term(chance_nodes(chance, symbols, chance.randint(1, size), share))
            found[pattern.nodes] = (pattern, sketch)
        try:
            return Book(symbols, tuple(found.values()))
        except InvalidBook:
            continue


def gapped_book(chance):
    """A book by chance whose patterns overlap like those of GUS, so that it often is not led."""
    constants = ["a", "b", "c"][:chance.randint(2, 3)]
    arity = chance.randint(2, 3)
    symbols = {**{word: 0 for word in constants}, "f": arity, "g": 0}
    rules = {}
    for _ in range(chance.randint(2, 5)):
        inner = [chance.choice(["_", *constants]) for _ in range(arity)]
        rules["f(" + ", ".join(inner) + ")"] = chance.choice(["_", *constants, "g"])
    rules["g"] = chance.choice(["_", "_", "a", "f(" + ", ".join(["_"] * arity) + ")"])
    return Book(symbols, tuple(terms(*rule) for rule in rules.items()))


def chance_books(seed, many, **bounds):
    """The books of all kinds above, and so many more by chance."""
    chance = random.Random(seed)
    found = [*SPECIAL, LARGE]
    for at in range(many):
        found.append(gapped_book(chance) if at % 3 == 2 else chance_book(chance, **bounds))
    return found
