"""How symbols and rules are written, each in one line."""

from firstneed.base.terms import Term
from firstneed.base.words import is_symbols
from firstneed.errors import InvalidTerm, ParseError

ARROW = " => "
BEGINNING = "symbols"
ARITIES = {"0": 0, "1": 1, "2": 2, "3": 3}


def symbols_line(symbols):
    """The line of these symbols."""
    items = [f"{word} {symbols[word]}" for word in sorted(symbols)]
    return " ".join([BEGINNING, *items])


def told_symbols(line):
    """The symbols with this line, or None."""
    items = line.split(" ") if isinstance(line, str) else []
    symbols = {word: ARITIES.get(arity) for word, arity in zip(items[1::2], items[2::2])}
    # What the items do not show, like a word that stands twice, shows in the line that is written anew.
    if not is_symbols(symbols) or symbols_line(symbols) != line:
        return None
    return symbols


def told_sides(line):
    """The texts of the two sides of a rule, or None."""
    sides = line.split(ARROW) if isinstance(line, str) else []
    return sides if len(sides) == 2 else None


def rule_line(rule):
    """The line of a rule of terms."""
    return f"{rule[0].text}{ARROW}{rule[1].text}"


def told_term(text):
    """The term with this text, or None."""
    try:
        return Term.read(text)
    except (ParseError, InvalidTerm):
        return None


def told_rules(lines, first):
    """The rules with these lines, of which the first one has this index."""
    rules = []
    for index, line in enumerate(lines, start=first):
        sides = told_sides(line)
        terms = [] if sides is None else [told_term(side) for side in sides]
        if len(terms) != 2 or None in terms:
            raise ParseError(index)
        rules.append(tuple(terms))
    return tuple(rules)
