"""Projects: books with named rules and with sayings that hold at all times."""

from firstneed.base.terms import Term
from firstneed.base.words import is_arity, is_integer, is_word
from firstneed.errors import (InvalidNumber, InvalidOperation, InvalidTerm, InvalidWord, NothingToUndo, TooMany,
                              UnknownWord)
from firstneed.use.plans import Plan, news_between
from firstneed.use.sayings import does_hold_in, is_saying

MAX_SAYINGS = 10
MAX_CHANGES = 200
CHANGES = {"put": 3, "remove": 1, "symbol": 2, "pin": 1, "unpin": 1}


def check_name(name):
    """Refuses what is no word."""
    if not is_word(name):
        raise InvalidWord("this is no word")


def check_many(many):
    """Refuses what is no integer of at least 0."""
    if not is_integer(many) or many < 0:
        raise InvalidNumber(many)


def is_change(value):
    """Whether the value is a tuple of the name of a change and of as many arguments as it has."""
    if not isinstance(value, tuple) or len(value) == 0 or not isinstance(value[0], str):
        return False
    return CHANGES.get(value[0]) == len(value) - 1


class Block:
    """Leads a project back to what it was ahead of a block."""

    def __init__(self, project):
        self.project = project
        self.plan = None
        self.past = ()
        self.future = ()

    def __enter__(self):
        self.plan = self.project.plan
        self.past = self.project.past
        self.future = self.project.future
        return self.project

    def __exit__(self, kind, value, trace):
        project = self.project
        project.plan = self.plan
        project.past = self.past
        project.future = self.future


class Project:
    """A book with named rules, and sayings that hold at all times.

    The plan is what it is now; `past` has the changes in effect as pairs of their word and of the plan ahead of them,
    `future` those that can be done again as pairs of their word and of the plan behind them, the next one first. None
    of these three is ever changed itself: so they can be kept, and put in again.
    """

    def __init__(self, symbols):
        self.plan = Plan(symbols, {}, ())
        self.past = ()
        self.future = ()

    @property
    def book(self):
        """The book, with the rules ascending by their names."""
        return self.plan.whole_book

    @property
    def names(self):
        """The names of the rules, ascending."""
        return self.plan.rule_names

    @property
    def sayings(self):
        """The pinned sayings, in the order in which they were pinned."""
        return self.plan.pinned

    @property
    def log(self):
        """The words of the changes that are in effect."""
        return tuple([word for word, _ in self.past])

    def put(self, name, pattern, sketch):
        """Adds a rule, or replaces the one with this name."""
        check_name(name)
        if not isinstance(pattern, Term) or not isinstance(sketch, Term):
            raise InvalidTerm("the pattern or the sketch is no term")
        return self._changed("put", self.book.symbols, {**self._named_rules(), name: (pattern, sketch)}, self.sayings)

    def remove(self, name):
        """Takes a rule away."""
        self._check_rule_name(name)
        rules = {other: rule for other, rule in self._named_rules().items() if other != name}
        return self._changed("remove", self.book.symbols, rules, self.sayings)

    def symbol(self, word, arity):
        """Adds a symbol."""
        check_name(word)
        if not is_arity(arity):
            raise InvalidNumber(arity)
        symbols = self.book.symbols
        if symbols.get(word, arity) != arity:
            raise InvalidOperation("the word is a symbol with another arity")
        return self._changed("symbol", {**symbols, word: arity}, self._named_rules(), self.sayings)

    def pin(self, saying):
        """Adds a saying to those that hold at all times."""
        self._check_saying(saying)
        if saying in self.sayings:
            raise InvalidOperation("the saying is pinned already")
        return self._changed("pin", self.book.symbols, self._named_rules(), (*self.sayings, saying))

    def unpin(self, saying):
        """Takes away one of these sayings."""
        self._check_saying(saying)
        if saying not in self.sayings:
            raise InvalidOperation("the saying is not pinned")
        sayings = tuple([other for other in self.sayings if other != saying])
        return self._changed("unpin", self.book.symbols, self._named_rules(), sayings)

    def does_hold(self, saying):
        """Whether a saying holds, pinned or not."""
        self._check_saying(saying)
        return does_hold_in(self.book, saying)

    def strict(self, word):
        """The strict arguments of a symbol."""
        if word not in self.book:
            raise UnknownWord(word)
        return self.plan.strict_rows[word]

    def rule_named(self, name):
        """The pattern and the sketch of a rule."""
        self._check_rule_name(name)
        return self._named_rules()[name]

    def trial(self, *changes):
        """The news that changes would return, one behind the other."""
        if not all([is_change(change) for change in changes]):
            raise InvalidOperation("this is no change with its arguments")
        other = self.twin()
        found = []
        for change in changes:
            found.append(other._done(change))
        return tuple(found)

    def block(self):
        """What leads back to all as it is ahead of a block."""
        return Block(self)

    def during(self, call):
        """What the call returns, behind which all is as ahead of it."""
        with self.block() as same:
            return call(same)

    def undo(self, *, many=1):
        """Takes back the last changes."""
        check_many(many)
        if many > len(self.past):
            raise NothingToUndo(many)
        before = self.plan
        for _ in range(many):
            word, earlier = self.past[-1]
            self.future = ((word, self.plan), *self.future)
            self.past = self.past[:-1]
            self.plan = earlier
        return news_between(before, self.plan)

    def redo(self, *, many=1):
        """Does the last changes again that were taken back."""
        check_many(many)
        if many > len(self.future):
            raise NothingToUndo(many)
        before = self.plan
        for _ in range(many):
            word, later = self.future[0]
            self.past = (*self.past, (word, self.plan))
            self.future = self.future[1:]
            self.plan = later
        return news_between(before, self.plan)

    def twin(self):
        """An equal project with an equal history, which changes by itself."""
        other = Project(self.book.symbols)
        other.plan = self.plan
        other.past = self.past
        other.future = self.future
        return other

    def _named_rules(self):
        return self.plan.rule_table

    def _check_rule_name(self, name):
        if name not in self:
            raise UnknownWord(name)

    def _check_saying(self, saying):
        if not is_saying(self.book, saying):
            raise InvalidOperation("this is no saying about the terms and symbols of the book")

    def _changed(self, word, symbols, rules, sayings):
        if len(sayings) > MAX_SAYINGS:
            raise TooMany(MAX_SAYINGS)
        if len(self.past) >= MAX_CHANGES:
            raise TooMany(MAX_CHANGES)
        before, plan = self.plan, Plan(symbols, rules, sayings)
        plan.check_sayings()
        self.plan = plan
        self.past = (*self.past, (word, before))
        self.future = ()
        return news_between(before, plan)

    def _done(self, change):
        word, *rest = change
        if word == "put":
            return self.put(rest[0], rest[1], rest[2])
        if word == "remove":
            return self.remove(rest[0])
        if word == "symbol":
            return self.symbol(rest[0], rest[1])
        return self.pin(rest[0]) if word == "pin" else self.unpin(rest[0])

    def __contains__(self, x):
        return is_word(x) and x in self._named_rules()

    def __len__(self):
        return len(self.names)

    def __iter__(self):
        return iter(self.plan.rule_names)

    def __eq__(self, other):
        if not isinstance(other, Project) or self.book != other.book:
            return False
        return self.names == other.names and self.sayings == other.sayings

    def __str__(self):
        return f"project of {len(self.names)} rules, {len(self.sayings)} sayings"
