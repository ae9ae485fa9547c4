"""What several modules ask of the arguments that they are passed."""

from firstneed.base.terms import Term
from firstneed.base.words import is_index, is_word
from firstneed.errors import InvalidNumber, InvalidOperation, InvalidTerm, UnknownPlace, UnknownWord


def is_term_of(value, symbols):
    """Whether the value is a term of these symbols, and of any leaves."""
    if not isinstance(value, Term):
        return False
    return all([symbols.get(word) == arity for word, arity in value.symbols.items()])


def is_ground_of(value, symbols):
    """Whether the value is a ground term of these symbols."""
    return is_term_of(value, symbols) and value.is_ground


def check_term(term, symbols):
    """Refuses what is no term of these symbols, and of any leaves."""
    if not is_term_of(term, symbols):
        raise InvalidTerm("this is no term of the symbols")


def check_ground(term, symbols):
    """Refuses what is no ground term of these symbols."""
    if not is_ground_of(term, symbols):
        raise InvalidTerm("this is no ground term of the symbols")


def check_place(place, term):
    """Refuses what is no place of the term."""
    if not is_index(place, len(term)):
        raise UnknownPlace(place)


def check_rule(rule, rules):
    """Refuses what is no index of one of the rules."""
    if not is_index(rule, len(rules)):
        raise InvalidNumber(rule)


def check_word(word, symbols):
    """Refuses what is no word of these symbols."""
    if not is_word(word) or word not in symbols:
        raise UnknownWord(word)


def check_flag(value):
    """Refuses what is neither True nor False."""
    if not isinstance(value, bool):
        raise InvalidOperation("this is neither True nor False")
