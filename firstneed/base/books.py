"""Books: symbols, and rules whose right sides are known only in part."""

from firstneed.base.checks import check_place, check_rule, check_term, is_ground_of, is_term_of
from firstneed.base.matching import filling_parts
from firstneed.base.parts import parts_below
from firstneed.base.spelling import rule_line, symbols_line, told_rules, told_symbols
from firstneed.base.terms import Term
from firstneed.base.trees import part_at, part_end
from firstneed.base.words import ANY, is_renaming, is_symbols, is_word
from firstneed.errors import InvalidBook, InvalidOperation, ParseError

MAX_RULES = 6
MAX_RULE_NODES = 7
MAX_PARTS = 10


def read_rules(*texts):
    """The tuple of the rules with these texts."""
    return told_rules(texts, 0)


def check_book(book):
    """Refuses what is no book."""
    if not isinstance(book, Book):
        raise InvalidBook("this is no book")


def is_side(value, symbols):
    """Whether the value can be a pattern or a sketch."""
    return is_term_of(value, symbols) and len(value) <= MAX_RULE_NODES and not value.lost


def is_rule(value, symbols):
    """Whether the value can be a rule."""
    if not isinstance(value, tuple) or len(value) != 2:
        return False
    return all([is_side(side, symbols) for side in value]) and value[0].nodes != ((ANY, 0),)


def are_rules(value, symbols):
    """Whether the value can be the rules of a book with these symbols."""
    if not isinstance(value, tuple) or len(value) > MAX_RULES:
        return False
    if not all([is_rule(rule, symbols) for rule in value]):
        return False
    patterns = [rule[0].nodes for rule in value]
    return len(set(patterns)) == len(patterns) and len(parts_below(patterns)) <= MAX_PARTS


def is_put_at(nodes, place, other):
    """Whether other nodes are those of the tree with any other part at this place."""
    # Nodes ahead of a place are never a whole tree: so the other tree has this place, too.
    return other[:place] == nodes[:place] and other[part_end(other, place):] == nodes[part_end(nodes, place):]


class Book:
    """Symbols and rules. It never changes."""

    def __init__(self, symbols, rules=()):
        if not is_symbols(symbols) or not are_rules(rules, symbols):
            raise InvalidBook("there is no book with these symbols and rules")
        self._symbols = {word: symbols[word] for word in sorted(symbols)}
        self._rules = rules

    @classmethod
    def read(cls, *lines):
        """The book with these lines."""
        symbols = told_symbols(lines[0]) if len(lines) > 0 else None
        if symbols is None:
            raise ParseError(0)
        return cls(symbols, told_rules(lines[1:], 1))

    @property
    def symbols(self):
        """A dict from the words, ascending, to their arities."""
        return dict(self._symbols)

    @property
    def rules(self):
        """The pairs of a pattern and a sketch."""
        return self._rules

    @property
    def patterns(self):
        """The patterns of the rules."""
        return tuple([pattern for pattern, _ in self._rules])

    @property
    def sketches(self):
        """The sketches of the rules."""
        return tuple([sketch for _, sketch in self._rules])

    @property
    def lines(self):
        """The lines of the book."""
        return (symbols_line(self._symbols), *[rule_line(rule) for rule in self._rules])

    @property
    def constants(self):
        """The words without arguments, ascending."""
        return tuple([word for word, arity in self._symbols.items() if arity == 0])

    @property
    def defined(self):
        """The words at the root of a pattern, ascending."""
        return tuple(sorted({pattern.nodes[0][0] for pattern, _ in self._rules}))

    def redexes(self, term):
        """The places at which a rule fits."""
        check_term(term, self._symbols)
        return tuple([place for place in range(len(term)) if self._fitting(term, place)])

    def rules_at(self, term, place):
        """The indices of the rules that fit at a place."""
        check_term(term, self._symbols)
        check_place(place, term)
        return self._fitting(term, place)

    def is_result(self, term):
        """Whether the term is ground and no rule fits anywhere in it."""
        return len(self.redexes(term)) == 0 and term.is_ground

    def step(self, term, place, rule, *terms):
        """The term behind a step, with these terms at the leaves of the sketch."""
        check_term(term, self._symbols)
        check_place(place, term)
        check_rule(rule, self._rules)
        self._check_fit(term, place, rule)
        sketch = self._rules[rule][1]
        if len(terms) != len(sketch.unknown) or not all([is_ground_of(one, self._symbols) for one in terms]):
            raise InvalidOperation("one ground term is needed for each leaf of the sketch")
        return term.with_part(place, sketch.filled(*terms))

    def is_step(self, one, place, rule, other):
        """Whether the other term comes of the first one by a step."""
        check_term(one, self._symbols)
        check_place(place, one)
        check_rule(rule, self._rules)
        check_term(other, self._symbols)
        self._check_fit(one, place, rule)
        if not is_put_at(one.nodes, place, other.nodes):
            return False
        put = other.part(place)
        return put.is_ground and put.is_instance(self._rules[rule][1])

    def with_rule(self, pattern, sketch):
        """The book with one rule more, behind the others."""
        return Book(self._symbols, (*self._rules, (pattern, sketch)))

    def without(self, rule):
        """The book without one of its rules."""
        check_rule(rule, self._rules)
        return Book(self._symbols, self._rules[:rule] + self._rules[rule + 1:])

    def with_symbol(self, word, arity):
        """The book with one symbol more."""
        if not is_word(word) or (word in self._symbols and self._symbols[word] != arity):
            raise InvalidBook("this is no word, or one with another arity")
        return Book({**self._symbols, word: arity}, self._rules)

    def with_sketch(self, rule, sketch):
        """The book with another sketch of one of its rules."""
        check_rule(rule, self._rules)
        changed = (self._rules[rule][0], sketch)
        return Book(self._symbols, (*self._rules[:rule], changed, *self._rules[rule + 1:]))

    def strong(self):
        """The book of which no sketch tells anything."""
        anything = Term.build(ANY)
        return Book(self._symbols, tuple([(pattern, anything) for pattern, _ in self._rules]))

    def renamed(self, names):
        """The book with other words."""
        if not is_renaming(names, list(self._symbols)):
            raise InvalidOperation("names are a dict from just the words of the book to different words")
        symbols = {names[word]: arity for word, arity in self._symbols.items()}
        sides = [[side.renamed({word: names[word] for word in side.symbols}) for side in rule] for rule in self._rules]
        return Book(symbols, tuple([tuple(rule) for rule in sides]))

    def knows_more(self, value):
        """Whether the value is a book like this one, of which the sketches tell no more."""
        if not isinstance(value, Book) or value.symbols != self._symbols or value.patterns != self.patterns:
            return False
        return all([mine.is_instance(other) for mine, other in zip(self.sketches, value.sketches)])

    def _fitting(self, term, place):
        part = part_at(term.nodes, place)
        patterns = [pattern.nodes for pattern, _ in self._rules]
        return tuple([rule for rule, nodes in enumerate(patterns) if filling_parts(part, nodes) is not None])

    def _check_fit(self, term, place, rule):
        if rule not in self._fitting(term, place):
            raise InvalidOperation("the part at this place is no instance of the pattern")

    def __or__(self, other):
        if not isinstance(other, Book):
            raise InvalidOperation("the other operand is no book")
        if any([self._symbols.get(word, arity) != arity for word, arity in other._symbols.items()]):
            raise InvalidOperation("a word has two arities")
        further = [rule for rule in other._rules if rule not in self._rules]
        return Book({**self._symbols, **other._symbols}, (*self._rules, *further))

    def __getitem__(self, at):
        check_rule(at, self._rules)
        return self._rules[at]

    def __len__(self):
        return len(self._rules)

    def __iter__(self):
        return iter(self._rules)

    def __contains__(self, x):
        return is_word(x) and x in self._symbols

    def __eq__(self, other):
        return isinstance(other, Book) and self._symbols == other._symbols and self._rules == other._rules

    def __str__(self):
        return f"{len(self._symbols)} symbols, {len(self._rules)} rules"
