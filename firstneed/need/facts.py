"""Facts, and the places that lines tell them of.

A fact is `("can", part)` or `("res", class)`. A place is `("term", at)` or `("rule", rule, at)`.
"""

from firstneed.base.trees import part_at
from firstneed.base.words import is_integer
from firstneed.need.forms import are_numbers
from firstneed.need.making import sites_in

CAN = "can"
RES = "res"
TERM = "term"
RULE = "rule"
ROOT = ("term", 0)


def is_fact(maker, value):
    """Whether the value is a fact of the book."""
    if not has_fact_form(value):
        return False
    return 0 <= value[1] < len(maker.frame.part_nodes) if value[0] == CAN else value[1] in maker.class_numbers


def has_fact_form(value):
    """Whether the value has the form of a fact, whatever the book is."""
    if not isinstance(value, tuple) or len(value) != 2 or not isinstance(value[0], str):
        return False
    return is_integer(value[1]) if value[0] == CAN else value[0] == RES and are_numbers(value[1])


def has_place_form(value):
    """Whether the value has the form of a place, whatever the book and the term are."""
    if not isinstance(value, tuple) or not 2 <= len(value) <= 3 or not isinstance(value[0], str):
        return False
    return are_numbers(value[1:])


def is_telling(value):
    """Whether the value has the form of a pair of a place and of a fact."""
    return isinstance(value, tuple) and len(value) == 2 and has_place_form(value[0]) and has_fact_form(value[1])


def uses_of(row, below):
    """The pairs of a place and of a fact that a part or a pattern with this row asks of arguments, in order."""
    return tuple([(below[at], (CAN, part)) for at, part in enumerate(row) if part is not None])


class Spots:
    """The nodes of the sketches of a book and of a term, by their places."""

    def __init__(self, maker, nodes):
        self.trees = {(TERM,): nodes}
        self.rule_sites = []
        for rule, sketch in enumerate(maker.sketch_nodes):
            self.trees[(RULE, rule)] = sketch
            self.rule_sites.extend(sites_in(sketch, (RULE, rule)))
        self.term_sites = sites_in(nodes, (TERM,))
        sites = self.rule_sites + self.term_sites
        self.signs = {place: sign for place, sign, _ in sites}
        self.below = {place: below for place, _, below in sites}

    def nodes_at(self, place):
        """The nodes of the part at a place."""
        return part_at(self.trees[place[:-1]], place[-1])

    def is_place(self, value):
        """Whether the value is one of these places."""
        return has_place_form(value) and value in self.signs
