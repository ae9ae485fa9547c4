"""Runs of programs by strategies, and the fewest steps to a result."""

from firstneed.base.checks import check_ground, is_ground_of
from firstneed.base.programs import check_program
from firstneed.base.terms import Term
from firstneed.base.trees import part_end
from firstneed.base.words import is_index
from firstneed.errors import InvalidBook, InvalidNumber, InvalidOperation, TooMany
from firstneed.need.closing import least_roots
from firstneed.need.holes import Holes
from firstneed.need.making import Maker
from firstneed.use.strides import Strides

STRATEGIES = ("inner", "needed", "outer")
MAX_STEPS = 200
MOST_STEPS = 10
MOST_TERMS = 2000


def innermost(nodes, redexes):
    """The least place of a redex below which there is none."""
    # The places below one of them follow it at once: so the next redex is below it, or none is.
    for number, place in enumerate(redexes[:-1]):
        if redexes[number + 1] >= part_end(nodes, place):
            return place
    return redexes[-1]


class Guide:
    """The redexes that a strategy takes, where needed ones are told by a book."""

    def __init__(self, strategy, book):
        self.manner = strategy
        self.maker = Maker(book)
        self.root_states = least_roots(self.maker)

    def taken_of(self, nodes, redexes):
        """The place of the redex that is taken, or None."""
        if self.manner == "outer":
            return redexes[0]
        if self.manner == "inner":
            return innermost(nodes, redexes)
        holes = Holes(self.maker, nodes, self.root_states)
        return min([place for place in redexes if holes.has_needed(place)], default=None)


class Course:
    """The steps of a run, made one by one, until it ends."""

    def __init__(self, strides, guide, nodes):
        self.strides = strides
        self.guide = guide
        self.trees = [nodes]
        self.places = []
        self.numbers = []

    def go(self, bound):
        """Makes up to so many steps, and tells how the run ends."""
        word = None
        while word is None:
            word = self.step_further(bound)
        return word

    def step_further(self, bound):
        """Makes a step, or tells how the run ends."""
        nodes = self.trees[-1]
        redexes = self.strides.redexes_of(nodes)
        if len(redexes) == 0:
            return "result"
        place = self.guide.taken_of(nodes, sorted(set([at for at, _ in redexes])))
        if place is None:
            return "stuck"
        if len(self.places) == bound:
            return "cut"
        rule = min([number for at, number in redexes if at == place])
        behind = self.strides.behind(nodes, place, rule)
        if behind is None:
            return "large"
        self.trees.append(behind)
        self.places.append(place)
        self.numbers.append(rule)
        return None


def check_strategy(strategy):
    """Refuses what is no strategy."""
    if strategy not in STRATEGIES:
        raise InvalidOperation("this is no strategy")


def check_bound(number, most):
    """Refuses what is no integer from 0 to the greatest one."""
    if not is_index(number, most + 1):
        raise InvalidNumber(number)


def known_book(program, knowing):
    """The book that a run goes by."""
    if knowing is None:
        return program.full()
    if not program.does_fit(knowing):
        raise InvalidBook("the program does not fit this book")
    return knowing


class Run:
    """A run of a program. It never changes."""

    def __init__(self, program, term, strategy="needed", *, knowing=None, bound=50):
        check_program(program)
        check_ground(term, program.symbols)
        check_strategy(strategy)
        book = known_book(program, knowing)
        check_bound(bound, MAX_STEPS)
        course = Course(Strides(program), Guide(strategy, book), term.nodes)
        self._end = course.go(bound)
        self._program = program
        self._strategy = strategy
        self._book = book
        self._terms = tuple([Term(nodes) for nodes in course.trees])
        self._taken = tuple(course.places)
        self._rules = tuple(course.numbers)

    @property
    def program(self):
        """The program."""
        return self._program

    @property
    def strategy(self):
        """The strategy."""
        return self._strategy

    @property
    def book(self):
        """The book by which needed places are told."""
        return self._book

    @property
    def terms(self):
        """The terms from the first to the last one."""
        return self._terms

    @property
    def taken(self):
        """The redexes of the steps."""
        return self._taken

    @property
    def rules(self):
        """The indices of the rules of the steps."""
        return self._rules

    @property
    def end(self):
        """How the run ends: with a result, stuck, cut or large."""
        return self._end

    @property
    def result(self):
        """The last term if it is a result, or None."""
        return self._terms[-1] if self._end == "result" else None

    def __getitem__(self, at):
        if not is_index(at, len(self._terms)):
            raise InvalidNumber(at)
        return self._terms[at]

    def __len__(self):
        return len(self._taken)

    def __iter__(self):
        return iter(self._terms)

    def __eq__(self, other):
        if not isinstance(other, Run) or self._program != other._program or self._strategy != other._strategy:
            return False
        return self._book == other._book and self._terms == other._terms

    def __str__(self):
        return f"{len(self._taken)} steps, {self._end}"


def next_terms(program, term):
    """The triples of a place, a rule and the term behind it of all steps of a term, ascending."""
    check_program(program)
    check_ground(term, program.symbols)
    return tuple([(at, rule, Term(nodes)) for at, rule, nodes in Strides(program).all_behind(term.nodes)])


def fewest_steps(program, term, most=6):
    """The least number of steps, up to the most, with which some order comes from the term to a result, or None."""
    check_program(program)
    check_ground(term, program.symbols)
    check_bound(most, MOST_STEPS)
    strides = Strides(program)
    met = {term.nodes: True}
    level = [term.nodes]
    for count in range(most + 1):
        if count > 0:
            level = level_behind(strides, level, met)
        if any([len(strides.redexes_of(nodes)) == 0 for nodes in level]):
            return count
        if len(met) > MOST_TERMS:
            raise TooMany(MOST_TERMS)
    return None


def level_behind(strides, level, met):
    """The trees to which one more step comes, that are not met yet; they are met then."""
    found = []
    for nodes in level:
        for _, _, behind in strides.all_behind(nodes):
            if behind not in met:
                met[behind] = True
                found.append(behind)
    return found


def is_run(program, value):
    """Whether the value is a pair of ground terms and of places, such that steps there lead from each to the next."""
    check_program(program)
    if not isinstance(value, tuple) or len(value) != 2 or not all([isinstance(row, tuple) for row in value]):
        return False
    terms, places = value
    if len(terms) != len(places) + 1 or not all([is_ground_of(term, program.symbols) for term in terms]):
        return False
    strides = Strides(program)
    for number, place in enumerate(places):
        steps = [(at, behind) for at, _, behind in strides.all_behind(terms[number].nodes)]
        if not is_index(place, len(terms[number])) or (place, terms[number + 1].nodes) not in steps:
            return False
    return True
