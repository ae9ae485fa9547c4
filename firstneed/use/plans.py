"""What a project is at one time."""

from firstneed.base.books import Book
from firstneed.errors import Refused
from firstneed.need.places import strict_table
from firstneed.use.sayings import does_hold_in


class Plan:
    """Symbols, rules by their names, pinned sayings, and what follows of these. It never changes."""

    def __init__(self, symbols, rules, sayings):
        self.rule_names = tuple(sorted(rules))
        self.rule_table = {name: rules[name] for name in self.rule_names}
        self.whole_book = Book(symbols, tuple([rules[name] for name in self.rule_names]))
        self.pinned = sayings
        self.strict_rows = strict_table(self.whole_book)

    def check_sayings(self):
        """Refuses a plan in which one of the pinned sayings does not hold."""
        # What cannot be worked out for one of them is told ahead of what does not hold.
        holding = [does_hold_in(self.whole_book, saying) for saying in self.pinned]
        for saying, is_held in zip(self.pinned, holding):
            if not is_held:
                raise Refused(saying)


def news_word(before, after):
    """How the strict arguments of a symbol changed."""
    if all([at in after for at in before]):
        return "stricter"
    return "looser" if all([at in before for at in after]) else "other"


def news_between(old, new):
    """The pairs of a symbol of both plans and of how its strict arguments changed, ascending."""
    rows = [(word, old.strict_rows[word], new.strict_rows[word]) for word in old.strict_rows if word in new.strict_rows]
    return tuple([(word, news_word(before, after)) for word, before, after in rows if before != after])
