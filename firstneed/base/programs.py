"""Programs: rules with named variables.

A scheme is a tree of symbols and of variables, and is told as a tuple of nodes.
"""

from firstneed.base.books import MAX_RULE_NODES, Book, check_book
from firstneed.base.checks import check_ground, check_rule
from firstneed.base.matching import common_instance, filling_parts
from firstneed.base.spelling import ARROW, told_sides
from firstneed.base.terms import MAX_NODES, Term
from firstneed.base.trees import (makes_one_tree, part_at, part_end, places_above, text_of, told_nodes,
                                  with_part_at)
from firstneed.base.words import ANY, is_arity, is_index, is_integer, is_word
from firstneed.errors import (InvalidBook, InvalidNumber, InvalidProgram, ParseError, TooMany,
                              UnknownPlace)

VARIABLES = "ABCDEFGHIJKLMNOPQRSTUVWXYZ"


def is_variable(sign):
    """Whether the sign is that of a variable."""
    return isinstance(sign, str) and len(sign) == 1 and sign in VARIABLES


def is_scheme_node(value):
    """Whether the value is a symbol with its arity, or a variable."""
    if not isinstance(value, tuple) or len(value) != 2:
        return False
    sign, arity = value
    if is_variable(sign):
        return is_integer(arity) and arity == 0
    return is_word(sign) and is_arity(arity)


def is_scheme_upto(value, most):
    """Whether the value is the tuple of the nodes of a scheme of at most so many nodes."""
    if not isinstance(value, tuple) or len(value) > most:
        return False
    if not all([is_scheme_node(node) for node in value]) or not makes_one_tree(value):
        return False
    nodes = sorted(set(value))
    return len(dict(nodes)) == len(nodes)


def told_scheme(text, most):
    """The nodes of the scheme with this text and at most so many nodes, or None."""
    nodes = told_nodes(text)
    return nodes if is_scheme_upto(nodes, most) and text_of(nodes) == text else None


def variables_in(nodes):
    """The variables of a scheme, in their order, each as often as it stands there."""
    return [sign for sign, _ in nodes if is_variable(sign)]


def opened(nodes):
    """The term of a scheme with a leaf for anything in the place of each variable."""
    return Term(tuple([(ANY, 0) if is_variable(node[0]) else node for node in nodes]))


def opened_below(nodes, depth):
    """The term of a scheme with such a leaf also in the place of each part that begins as deep as this."""
    found = []
    at = 0
    while at < len(nodes):
        if is_variable(nodes[at][0]) or len(places_above(nodes, at)) > depth:
            found.append((ANY, 0))
            at = part_end(nodes, at)
        else:
            found.append(nodes[at])
            at += 1
    return Term(tuple(found))


def exchanged(nodes, parts):
    """The nodes of a scheme with parts in the place of variables, told by a dict."""
    found = []
    for node in nodes:
        found.extend(parts.get(node[0], [node]))
    return tuple(found)


def is_scheme(value):
    """Whether the value is the tuple of the nodes of a scheme of at most seven nodes."""
    return is_scheme_upto(value, MAX_RULE_NODES)


def is_rule(value):
    """Whether the value is a pair of schemes whose variables are as those of a rule."""
    if not isinstance(value, tuple) or len(value) != 2 or not all([is_scheme(side) for side in value]):
        return False
    known = variables_in(value[0])
    return len(set(known)) == len(known) and all([sign in known for sign in variables_in(value[1])])


def full_book(symbols, rules):
    """The book with a leaf for anything in the place of each variable."""
    if not isinstance(rules, tuple) or len(rules) == 0 or not all([is_rule(rule) for rule in rules]):
        raise InvalidProgram("the rules are no tuple of rules")
    try:
        return Book(symbols, tuple([(opened(left), opened(right)) for left, right in rules]))
    except InvalidBook:
        raise InvalidProgram("there is no book with these symbols and patterns") from None


def told_rule(line, index):
    """The rule with this line, which has this index."""
    sides = told_sides(line)
    schemes = [] if sides is None else [told_scheme(side, MAX_NODES) for side in sides]
    if len(schemes) != 2 or None in schemes:
        raise ParseError(index)
    return tuple(schemes)


def do_overlap(lefts, rule, at, other):
    """Whether two rules overlap at this node of the first one."""
    if is_variable(lefts[rule][at][0]) or (at == 0 and rule >= other):
        return False
    one = opened(part_at(lefts[rule], at))
    return common_instance(one.nodes, opened(lefts[other]).nodes) is not None


def stepped_nodes(rule, pattern, nodes, place):
    """The nodes of a tree behind the step by a rule with this pattern, which fits at this place."""
    left, right = rule
    parts = filling_parts(part_at(nodes, place), pattern)
    return with_part_at(nodes, place, exchanged(right, dict(zip(variables_in(left), parts))))


def check_program(program):
    """Refuses what is no program."""
    if not isinstance(program, Program):
        raise InvalidProgram("this is no program")


class Program:
    """Symbols, and rules with variables. It never changes."""

    def __init__(self, symbols, rules):
        self._full = full_book(symbols, rules)
        self._rules = rules

    @classmethod
    def from_lines(cls, symbols, *lines):
        """The program with these lines."""
        return cls(symbols, tuple([told_rule(line, index) for index, line in enumerate(lines)]))

    @property
    def symbols(self):
        """A dict from the words, ascending, to their arities."""
        return self._full.symbols

    @property
    def rules(self):
        """The pairs of a left and a right side."""
        return self._rules

    @property
    def lines(self):
        """The texts of the rules."""
        return tuple([f"{text_of(left)}{ARROW}{text_of(right)}" for left, right in self._rules])

    @property
    def overlaps(self):
        """The triples of a rule, a node of its left side and a rule that overlaps it there."""
        lefts = [left for left, _ in self._rules]
        return tuple([(rule, at, other) for rule, left in enumerate(lefts) for at in range(len(left))
                      for other in range(len(lefts)) if do_overlap(lefts, rule, at, other)])

    @property
    def is_plain(self):
        """Whether there are no overlaps."""
        return len(self.overlaps) == 0

    @property
    def doubling(self):
        """The indices of the rules whose right sides have a variable more than once."""
        found = [variables_in(right) for _, right in self._rules]
        return tuple([rule for rule, signs in enumerate(found) if len(set(signs)) < len(signs)])

    def full(self):
        """The book with a leaf for anything in the place of each variable."""
        return Book(self._full.symbols, self._full.rules)

    def strong(self):
        """The book of the patterns, of which no sketch tells anything."""
        return self._full.strong()

    def known(self, depth):
        """The book whose sketches tell the nodes that lie less deep than this."""
        if not is_index(depth, MAX_RULE_NODES + 1):
            raise InvalidNumber(depth)
        rights = [opened_below(right, depth) for _, right in self._rules]
        return Book(self._full.symbols, tuple(zip(self._full.patterns, rights)))

    def does_fit(self, book):
        """Whether each right side comes of the sketch of the book, whatever its variables are."""
        check_book(book)
        if book.symbols != self._full.symbols or book.patterns != self._full.patterns:
            return False
        rights = [right for _, right in self._rules]
        return all([filling_parts(right, sketch.nodes) is not None for right, sketch in zip(rights, book.sketches)])

    def redexes(self, term):
        """The pairs of a place and of a rule that fits there."""
        check_ground(term, self._full.symbols)
        return tuple([(place, rule) for place in range(len(term)) for rule in self._full.rules_at(term, place)])

    def step(self, term, place, rule):
        """The term behind a step."""
        check_ground(term, self._full.symbols)
        fitting = self._full.rules_at(term, place) if is_index(place, len(term)) else ()
        if len(fitting) == 0:
            raise UnknownPlace(place)
        if not is_integer(rule) or rule not in fitting:
            raise InvalidNumber(rule)
        nodes = stepped_nodes(self._rules[rule], self._full.patterns[rule].nodes, term.nodes, place)
        if len(nodes) > MAX_NODES:
            raise TooMany(MAX_NODES)
        return Term(nodes)

    def is_result(self, term):
        """Whether no rule fits anywhere in the term."""
        return len(self.redexes(term)) == 0

    def ground(self, text):
        """The ground term with this text."""
        term = Term.read(text)
        check_ground(term, self._full.symbols)
        return term

    def with_rule(self, left, right):
        """The program with one rule more, behind the others."""
        return Program(self._full.symbols, (*self._rules, (left, right)))

    def without(self, rule):
        """The program without one of its rules."""
        check_rule(rule, self._rules)
        return Program(self._full.symbols, self._rules[:rule] + self._rules[rule + 1:])

    def __getitem__(self, at):
        check_rule(at, self._rules)
        return self._rules[at]

    def __len__(self):
        return len(self._rules)

    def __iter__(self):
        return iter(self._rules)

    def __eq__(self, other):
        return isinstance(other, Program) and self.symbols == other.symbols and self._rules == other._rules

    def __str__(self):
        return "\n".join(list(self.lines))
