"""[14.1], [14.2]: projects, their changes, and sayings."""

import random
import unittest

from firstneed.base.books import Book
from firstneed.base.terms import Term
from firstneed.errors import (InvalidBook, InvalidNumber, InvalidOperation, InvalidTerm, InvalidWord, NothingToUndo,
                              Refused, TooMany, UnknownWord)
from firstneed.need.places import is_needed, needed_places, strict_arguments
from firstneed.use import plans, project as module, sayings
from firstneed.use.looks import has_looks
from firstneed.use.project import Project
from firstneed.whole.led import Led
from tests.helper import all_kinds, raised
from tests.samples import GUS, LARGE, SEQ, SPECIAL, chance_books, chance_nodes, chance_term, term

LISTED = ("put", "remove", "symbol", "pin", "unpin", "does_hold", "strict", "rule_named", "trial", "block", "during",
          "undo", "redo", "twin", "__contains__", "__len__", "__iter__", "__eq__", "__str__")
PROPERTIES = ("book", "names", "sayings", "log")
ANY = term("_")
SYMBOLS = {"a": 0, "b": 0, "f": 2, "g": 0}
# Wrong values, of which none is a saying about SEQ.
NO_SAYINGS = [
    (), ("led", 1), ("open", 1), ("led", "open"), ("looks",), ("looks", "h"), ("looks", "_"), ("looks", "f", 1),
    ("looks", None), ("looks", ("f",)), ("strict", "f"), ("strict", "f", 2), ("strict", "f", -1), ("strict", "f", True),
    ("strict", "f", False), ("strict", "f", None), ("strict", "f", "0"), ("strict", "f", 10 ** 60), ("strict", "a", 0),
    ("strict", "h", 0), ("strict", 0, "f"), ("strict", [], 0), ("needed", "f(g, g)"), ("needed", "f(g, g)", 3),
    ("needed", "f(g, g)", -1), ("needed", "f(g, g)", True), ("needed", "f(g, g)", None), ("needed", "f(g, g)", "1"),
    ("needed", "f(g,g)", 1), ("needed", "f(g, g", 1), ("needed", "f(g)", 0), ("needed", "h", 0), ("needed", "#", 0),
    ("needed", "f(#, g)", 1), ("needed", "", 0), ("needed", term("g"), 0), ("needed", None, 0), ("needed", 0, "g"),
    ("needed", "f(f, f)", 0), ("needed", "f(g, g)", 1, 1), ("spared", "f(g, g)", 3), ("spared", "h", 0),
    ("spared", "f(g, g)", False), ("Needed", "g", 0), ("need", "g", 0), ("closed",), (None,), (0,), (("led",),),
    (["led"],), ["led"], ["needed", "g", 0], "led", {"led": 1}]


def project_of(book):
    """A project with this book, whose rules are called one, two .. in their order."""
    project = Project(book.symbols)
    for name, (pattern, sketch) in zip("abcdef", book.rules):
        project.put(name, pattern, sketch)
    return project


def told_state(project):
    """All that a project tells, and what can be done again."""
    twin, again = project.twin(), []
    while not isinstance(outcome := attempt(twin.redo), NothingToUndo):
        again.append((outcome, twin.book, twin.sayings))
    return (project.book, project.names, project.sayings, project.log, [project.rule_named(name) for name in project],
            again)


def attempt(call, *given):
    try:
        return call(*given)
    except NothingToUndo as error:
        return error


def news_of(before, after):
    """[14.1]: what is told of the strict arguments of two books."""
    found = []
    for word in sorted(before.symbols):
        if word in after.symbols:
            old, new = (set(strict_arguments(book, word)) for book in (before, after))
            if old != new:
                found.append((word, "stricter" if old <= new else "looser" if new <= old else "other"))
    return tuple(found)


class Changes(unittest.TestCase):
    def setUp(self):
        self.project = project_of(SEQ)

    def test_the_beginning(self):
        project = Project(SYMBOLS)
        self.assertEqual([project.book, project.names, project.sayings, project.log, len(project), str(project)],
                         [Book(SYMBOLS), (), (), (), 0, "project of 0 rules, 0 sayings"])
        none = [value for value in all_kinds() if value != {"a": 0}]
        for value in [*none, {"f": 1}, {"a": 4}, {"a": True}, {"A": 0}, {}, {letter: 0 for letter in "abcdefghi"},
                      project, SEQ, [("a", 0)]]:
            self.assertIs(type(raised(Project, value)), InvalidBook)

    def test_put(self):
        project = Project(SYMBOLS)
        self.assertEqual(project.put("one", term("f(a, _)"), ANY), (("f", "looser"),))
        self.assertEqual([project.book.lines[1:], project.names, project.log], [("f(a, _) => _",), ("one",), ("put",)])
        self.assertEqual(project.put("again", term("f(b, a)"), term("b")), ())
        # The rules ascend by their names, not by the times at which they came.
        self.assertEqual([project.names, project.book.lines[1:]], [("again", "one"), ("f(b, a) => b", "f(a, _) => _")])

    def test_put_replaces(self):
        project = self.project
        self.assertEqual(project.put("b", term("f(a, b)"), term("g")), ())
        self.assertEqual([project.names, project.rule_named("b"), len(project)],
                         [("a", "b", "c"), (term("f(a, b)"), term("g")), 3])
        self.assertEqual(project.put("b", term("f(a, b)"), term("g")), ())
        self.assertEqual([project.log, project.book[1]], [("put",) * 5, (term("f(a, b)"), term("g"))])

    def test_remove(self):
        self.assertEqual(self.project.remove("a"), (("f", "stricter"),))
        self.assertEqual([self.project.book, self.project.names, self.project.log],
                         [SEQ.without(0), ("b", "c"), ("put",) * 3 + ("remove",)])
        for name in ["a", "z", "_", "", "A", None, 0, True, (), [], {}, ("b",), 10 ** 60, term("b")]:
            error = raised(self.project.remove, name)
            self.assertEqual((type(error), error.asked), (UnknownWord, name))
            error = raised(self.project.rule_named, name)
            self.assertEqual((type(error), error.asked), (UnknownWord, name))
        self.assertEqual(self.project.rule_named("b"), SEQ.rules[1])

    def test_symbol(self):
        project = self.project
        self.assertEqual([project.symbol("h", 2), project.symbol("h", 2), project.strict("h")], [(), (), (0, 1)])
        self.assertEqual([project.book, project.log], [SEQ.with_symbol("h", 2), ("put",) * 3 + ("symbol",) * 2])
        for arity in (0, 1, 3):
            self.assertIs(type(raised(project.symbol, "h", arity)), InvalidOperation)
        for wrong in [None, True, False, -1, 4, "0", (), [], 10 ** 60, term("a")]:
            for word in ("h", "new"):
                error = raised(project.symbol, word, wrong)
                self.assertEqual((type(error), error.number), (InvalidNumber, wrong))
        for wrong in ["", "A", "_", "#", "abcdefghi", None, 0, True, (), [], {}, term("a")]:
            self.assertIs(type(raised(project.symbol, wrong, 9)), InvalidWord)
        for word in ("i", "j", "k"):
            project.symbol(word, 0)
        self.assertIs(type(raised(project.symbol, "l", 0)), InvalidBook)
        self.assertEqual([project.symbol("k", 0), len(project.book.symbols)], [(), 8])

    def test_news_with_each_word(self):
        chance, seen = random.Random(151), {}
        for book in SPECIAL[:6] + chance_books(152, 20):
            project = project_of(book)
            for _ in range(8):
                before = project.book
                news = self.change_by_chance(chance, project)
                self.assertEqual(news, news_of(before, project.book))
                for _, word in news:
                    seen[word] = seen.get(word, 0) + 1
        self.assertEqual(sorted(seen), ["looser", "other", "stricter"])

    def change_by_chance(self, chance, project):
        """A change that is not refused, and its news."""
        while True:
            symbols = project.book.symbols
            way = chance.randrange(4)
            try:
                if way == 0 and project.names:
                    return project.remove(chance.choice(project.names))
                if way == 1 and len(symbols) < 8:
                    return project.symbol(chance.choice("xyz") + "x", chance.choice([0, 1]))
                nodes = [chance_nodes(chance, symbols, chance.randint(1, 5), 0.5) for _ in range(2)]
                return project.put(chance.choice(["a", "b", "c", "d", "e"]), Term(nodes[0]), Term(nodes[1]))
            except (InvalidBook, InvalidOperation):
                continue

    def test_news_of_several_symbols(self):
        project = Project({"a": 0, "f": 2, "g": 1, "h": 1})
        project.put("one", term("a"), term("a"))
        # Without results all arguments are strict.
        self.assertEqual(project.put("one", term("a"), ANY), ())
        self.assertEqual([project.put("two", term("f(_, a)"), ANY), project.strict("f")], [(), (0, 1)])
        wide = Project({"a": 0, "b": 0, "f": 2, "g": 2})
        wide.put("one", term("f(_, a)"), term("a"))
        wide.put("two", term("g(a, _)"), term("a"))
        self.assertEqual(wide.strict("f") + wide.strict("g"), (1, 0))
        self.assertEqual(wide.undo(many=2), (("f", "stricter"), ("g", "stricter")))
        self.assertEqual(wide.redo(many=2), (("f", "looser"), ("g", "looser")))
        self.assertEqual(wide.put("two", term("g(_, a)"), term("a")), (("g", "other"),))

    def test_strict(self):
        for book in SPECIAL + chance_books(153, 20):
            project = project_of(book)
            for word in book.symbols:
                self.assertEqual(project.strict(word), strict_arguments(book, word))
        for wrong in ["h", "", "A", None, 0, True, (), [], {}, term("a")]:
            error = raised(self.project.strict, wrong)
            self.assertEqual((type(error), error.asked), (UnknownWord, wrong))

    def test_wrong_puts(self):
        for wrong in ["", "A", "_", "abcdefghi", "a b", None, 0, True, (), [], {}, term("a")]:
            self.assertIs(type(raised(self.project.put, wrong, 5, 5)), InvalidWord)
        for wrong in [value for value in all_kinds() if not isinstance(value, Term)]:
            self.assertIs(type(raised(self.project.put, "z", wrong, ANY)), InvalidTerm)
            self.assertIs(type(raised(self.project.put, "z", wrong, 5)), InvalidTerm)
            self.assertIs(type(raised(self.project.put, "z", ANY, wrong)), InvalidTerm)
        before = told_state(self.project)
        for pattern, sketch in [("_", "a"), ("f(a, _)", "b"), ("h", "a"), ("f(a, #)", "a"), ("a", "#"), ("f(a)", "a"),
                                ("a", "h"), ("f(a, f(a, f(a, f(a, b))))", "a"), ("a", "f(a, f(a, f(a, f(a, b))))")]:
            self.assertIs(type(raised(self.project.put, "z", term(pattern), term(sketch))), InvalidBook)
        self.assertEqual(told_state(self.project), before)
        for name, pattern in zip("xyz", ("a", "b", "f(b, b)")):
            self.project.put(name, term(pattern), ANY)
        self.assertIs(type(raised(self.project.put, "more", term("f(g, g)"), ANY)), InvalidBook)
        full = self.project.book
        self.assertEqual(self.project.put("x", term("f(g, g)"), ANY), news_of(full, self.project.book))

    def test_two_hundred_changes(self):
        project = Project(SYMBOLS)
        for _ in range(200):
            project.symbol("a", 0)
        self.assertEqual(len(project.log), 200)
        before = told_state(project)
        calls = [lambda: project.symbol("a", 0), lambda: project.put("one", term("a"), ANY),
                 lambda: project.put("one", ANY, ANY), lambda: project.pin(("led",)), lambda: project.symbol("h", 0)]
        for call in calls:
            error = raised(call)
            self.assertEqual((type(error), error.limit), (TooMany, 200))
        # What is no change at all is told first.
        self.assertIs(type(raised(project.remove, "one")), UnknownWord)
        self.assertIs(type(raised(project.unpin, ("led",))), InvalidOperation)
        self.assertEqual(told_state(project), before)
        project.undo(many=3)
        self.assertEqual([project.pin(("led",)), len(project.log)], [(), 198])
        error = raised(project.trial, *[("symbol", "a", 0)] * 3)
        self.assertEqual((type(error), error.limit), (TooMany, 200))
        self.assertEqual(len(project.trial(*[("symbol", "a", 0)] * 2)), 2)

    def test_refused_changes_leave_all(self):
        project = self.project
        project.pin(("led",))
        project.pin(("strict", "f", 0))
        project.pin(("spared", "f(g, g)", 2))
        project.symbol("h", 0)
        project.undo()
        before = told_state(project)
        for call, cause in [(lambda: project.put("b", term("f(_, a)"), ANY), ("led",)),
                            (lambda: project.remove("a"), ("spared", "f(g, g)", 2)),
                            (lambda: project.put("z", term("f(_, _)"), ANY), ("strict", "f", 0)),
                            (lambda: project.pin(("needed", "f(g, g)", 2)), ("needed", "f(g, g)", 2))]:
            error = raised(call)
            self.assertEqual((type(error), error.cause), (Refused, cause))
            self.assertEqual(told_state(project), before)
        for call in (lambda: project.put("z", term("f(a, _)"), ANY), lambda: project.symbol("f", 1),
                     lambda: project.pin(("led",)), lambda: project.remove("z"), lambda: project.undo(many=-1),
                     lambda: project.undo(many=99), lambda: project.redo(many=2)):
            raised(call)
            self.assertEqual(told_state(project), before)
        self.assertEqual([project.redo(), project.log[-1]], [(), "symbol"])

    def test_the_first_pinned_one_is_told(self):
        project = self.project
        pinned = [("spared", "f(g, g)", 2), ("led",), ("strict", "f", 0), ("looks", "f"), ("needed", "f(g, g)", 1)]
        for saying in pinned:
            project.pin(saying)
        error = raised(project.put, "b", term("f(_, a)"), ANY)
        self.assertEqual((type(error), error.cause), (Refused, ("led",)))
        project.unpin(("led",))
        error = raised(project.put, "b", term("f(_, a)"), ANY)
        self.assertEqual((type(error), error.cause), (Refused, ("strict", "f", 0)))
        project.pin(("led",))
        self.assertEqual(project.sayings, (pinned[0], *pinned[2:], ("led",)))
        error = raised(project.put, "b", term("f(_, a)"), ANY)
        self.assertEqual((type(error), error.cause), (Refused, ("strict", "f", 0)))


class Sayings(unittest.TestCase):
    def test_each_kind(self):
        project = project_of(SEQ)
        for saying, good in [(("needed", "f(g, g)", 1), True), (("needed", "f(g, g)", 2), False),
                             (("spared", "f(g, g)", 1), False), (("spared", "f(g, g)", 2), True),
                             (("needed", "f(_, _)", 0), True), (("needed", "_", 0), True), (("spared", "_", 0), False),
                             (("led",), True), (("open",), True), (("strict", "f", 0), True),
                             (("strict", "f", 1), False),
                             (("looks", "f"), True), (("looks", "a"), True)]:
            self.assertIs(project.does_hold(saying), good, saying)
            if good:
                self.assertEqual([project.pin(saying), project.sayings[-1], project.unpin(saying)], [(), saying, ()])
            else:
                error = raised(project.pin, saying)
                self.assertEqual((type(error), error.cause), (Refused, saying))
        half = project_of(Book.read("symbols a 0 b 0 c 0 f 3 g 0", "f(b, _, _) => a", "f(_, a, c) => c", "g => a"))
        self.assertEqual([half.does_hold(("led",)), half.does_hold(("open",))], [True, False])
        gus = project_of(GUS)
        self.assertEqual([gus.does_hold(saying) for saying in [("led",), ("open",), ("looks", "f"), ("looks", "g")]],
                         [False, False, False, True])

    def test_by_what_they_tell(self):
        chance, seen = random.Random(154), {}
        for book in SPECIAL + chance_books(155, 40):
            project = project_of(book)
            if project.book != book:
                continue
            one = chance_term(chance, book.symbols, 6)
            at = chance.randrange(len(one))
            needed = at in needed_places(book, one)
            told = [(("needed", one.text, at), needed), (("spared", one.text, at), not needed),
                    (("led",), Led(book).is_led), (("open",), Led(book, is_open=True).is_led)]
            for word, arity in book.symbols.items():
                told.append((("looks", word), has_looks(book, word)))
                told += [(("strict", word, index), index in strict_arguments(book, word)) for index in range(arity)]
            for saying, good in told:
                self.assertIs(project.does_hold(saying), good)
                seen[(saying[0], good)] = seen.get((saying[0], good), 0) + 1
        self.assertEqual(len(seen), 12, seen)

    def test_no_sayings(self):
        project = project_of(SEQ)
        for value in [*all_kinds(), *NO_SAYINGS, SEQ, project]:
            for call in (project.pin, project.unpin, project.does_hold):
                self.assertIs(type(raised(call, value)), InvalidOperation, value)
        self.assertEqual(project.log, ("put",) * 3)
        # Of other symbols they are sayings as soon as these are there.
        project.symbol("h", 1)
        self.assertIs(project.does_hold(("strict", "h", 0)), True)

    def test_pinned_and_not(self):
        project = project_of(SEQ)
        self.assertEqual([project.pin(("led",)), project.sayings], [(), (("led",),)])
        self.assertIs(type(raised(project.pin, ("led",))), InvalidOperation)
        self.assertIs(type(raised(project.unpin, ("open",))), InvalidOperation)
        project.pin(("open",))
        project.pin(("looks", "f"))
        project.unpin(("open",))
        self.assertEqual([project.sayings, project.log[3:]], [(("led",), ("looks", "f")),
                                                              ("pin", "pin", "pin", "unpin")])
        self.assertIs(type(raised(project.unpin, ("open",))), InvalidOperation)
        project.pin(("strict", "f", 0))
        project.pin(("needed", "f(g, g)", 1))
        for wrong in [("strict", "f", False), ("needed", "f(g, g)", True)]:
            for call in (project.pin, project.unpin):
                self.assertIs(type(raised(call, wrong)), InvalidOperation)

    def test_ten_sayings(self):
        project = project_of(SEQ)
        several = [("led",), ("open",), ("strict", "f", 0), ("looks", "f"), ("looks", "a"), ("looks", "b"),
                   ("looks", "g"),
                   ("needed", "f(g, g)", 1), ("spared", "f(g, g)", 2), ("needed", "g", 0)]
        for saying in several:
            project.pin(saying)
        before = told_state(project)
        for saying in [("needed", "f(g, g)", 0), ("needed", "f(g, g)", 2)]:
            error = raised(project.pin, saying)
            self.assertEqual((type(error), error.limit), (TooMany, 10))
        self.assertIs(type(raised(project.pin, ("led",))), InvalidOperation)
        self.assertEqual([told_state(project), project.sayings], [before, tuple(several)])
        project.unpin(("open",))
        self.assertEqual([project.pin(("needed", "f(g, g)", 0)), len(project.sayings)], [(), 10])
        while len(project.log) < 200:
            project.symbol("a", 0)
        self.assertEqual(raised(project.pin, ("open",)).limit, 10)

    def test_what_is_asked_can_be_too_many(self):
        # As of `Led`, ahead of what does not hold.
        kept, plans_kept = sayings.Led, plans.does_hold_in

        def many(book, *, is_open=False):
            raise TooMany(4000)
        project = project_of(SEQ)
        project.pin(("strict", "f", 0))
        project.pin(("led",))
        before = told_state(project)
        try:
            sayings.Led = many
            for call in (lambda: project.remove("a"), lambda: project.put("b", term("f(_, a)"), ANY),
                         lambda: project.put("z", term("f(_, _)"), ANY), lambda: project.does_hold(("open",))):
                error = raised(call)
                self.assertEqual((type(error), error.limit), (TooMany, 4000))
            self.assertIs(type(raised(project.put, "z", ANY, ANY)), InvalidBook)
        finally:
            sayings.Led = kept
        self.assertEqual([told_state(project), plans.does_hold_in], [before, plans_kept])


class Histories(unittest.TestCase):
    def test_undo_and_redo(self):
        chance = random.Random(156)
        for book in SPECIAL[:5] + chance_books(157, 10):
            project = Project(book.symbols)
            states = [told_state(project)[:-1]]
            for name, (pattern, sketch) in zip("fbdace", book.rules):
                project.put(name, pattern, sketch)
                states.append(told_state(project)[:-1])
            now = len(states) - 1
            for _ in range(12):
                goal = chance.randint(0, len(states) - 1)
                call, many = (project.undo, now - goal) if goal <= now else (project.redo, goal - now)
                self.assertEqual(call(many=many), news_of(states[now][0], states[goal][0]))
                self.assertEqual(told_state(project)[:-1], states[goal])
                now = goal
                error = raised(lambda: project.undo(many=now + 1))
                self.assertEqual((type(error), error.amount), (NothingToUndo, now + 1))
                error = raised(lambda: project.redo(many=len(states) - now))
                self.assertEqual((type(error), error.amount), (NothingToUndo, len(states) - now))

    def test_none_and_one(self):
        project = Project(SYMBOLS)
        self.assertEqual([project.undo(many=0), project.redo(many=0)], [(), ()])
        for call in (project.undo, project.redo):
            self.assertEqual(raised(call).amount, 1)
        project.put("one", term("f(a, _)"), ANY)
        self.assertEqual([project.undo(), project.log, project.redo(), project.log],
                         [(("f", "stricter"),), (), (("f", "looser"),), ("put",)])
        self.assertEqual([project.undo(many=0), project.log], [(), ("put",)])
        error = raised(lambda: project.undo(many=10 ** 59))
        self.assertEqual((type(error), error.amount), (NothingToUndo, 10 ** 59))
        for wrong in [None, True, False, -1, "1", (), [], 10 ** 60, -(10 ** 60), term("a")]:
            for call in (project.undo, project.redo):
                error = raised(lambda: call(many=wrong))
                self.assertEqual((type(error), error.number), (InvalidNumber, wrong))

    def test_behind_other_changes(self):
        project = project_of(SEQ)
        project.undo(many=2)
        self.assertEqual([project.redo(), project.undo()], [(), ()])
        project.symbol("h", 0)
        self.assertEqual(raised(project.redo).amount, 1)
        self.assertEqual(project.log, ("put", "symbol"))
        project.undo(many=2)
        self.assertEqual([project.redo(many=2), project.log, project.book.lines],
                         [(("f", "looser"),), ("put", "symbol"), ("symbols a 0 b 0 f 2 g 0 h 0", "f(a, _) => _")])
        # Also a change by which all stays equal is another one; a refused one is none.
        project.undo()
        self.assertIs(type(raised(project.put, "x", ANY, ANY)), InvalidBook)
        self.assertEqual(len(project.twin().redo()), 0)
        project.symbol("a", 0)
        self.assertIs(type(raised(project.redo)), NothingToUndo)

    def test_a_symbol_that_goes_is_not_told(self):
        project = Project({"a": 0, "b": 0})
        project.symbol("f", 2)
        project.put("one", term("f(a, _)"), ANY)
        self.assertEqual([project.undo(many=2), project.book.symbols], [(), {"a": 0, "b": 0}])
        self.assertEqual([project.redo(many=2), project.strict("f")], [(), (0,)])

    def test_sayings_in_histories(self):
        project = project_of(SEQ)
        project.pin(("led",))
        project.unpin(("led",))
        project.undo()
        self.assertEqual(project.sayings, (("led",),))
        self.assertIs(type(raised(project.put, "b", term("f(_, a)"), ANY)), Refused)
        project.undo()
        self.assertEqual([project.sayings, project.redo(many=2), project.sayings], [(), (), ()])


class Trials(unittest.TestCase):
    def test_trials(self):
        project = project_of(SEQ)
        project.symbol("h", 1)
        project.undo()
        before = told_state(project)
        self.assertEqual(project.trial(), ())
        self.assertEqual(project.trial(("remove", "a"), ("symbol", "k", 1), ("put", "z", term("k(_)"), ANY),
                                       ("pin", ("led",)), ("unpin", ("led",))),
                         ((("f", "stricter"),), (), (("k", "looser"),), (), ()))
        self.assertEqual(told_state(project), before)
        twin = project.twin()
        self.assertEqual(project.trial(("remove", "a"), ("remove", "b")), (twin.remove("a"), twin.remove("b")))

    def test_errors(self):
        project = project_of(SEQ)
        before = told_state(project)
        good = ("remove", "a")
        for wrong in [*all_kinds(), ["remove", "a"], ("remove",), ("remove", "a", "b"), ("put", "z", ANY),
                      ("symbol", "h"),
                      ("put", "z", term("a"), ANY, 1), ("pin",), ("pin", "led", 1), ("undo",), ("undo", 1), ("trial",),
                      ("block",), ("twin",), ("_changed", 1), ("Remove", "a"), (None, "a"), (["remove"], "a"),
                      "remove"]:
            for changes in [(wrong,), (good, wrong), (wrong, good), (("remove", "z"), wrong)]:
                self.assertIs(type(raised(project.trial, *changes)), InvalidOperation)
        for wrong, kind in [(("remove", "z"), UnknownWord), (("put", "A", 1, 1), InvalidWord),
                            (("put", "z", 1, 1), InvalidTerm),
                            (("put", "z", ANY, ANY), InvalidBook), (("symbol", "h", 9), InvalidNumber),
                            (("symbol", "f", 1), InvalidOperation), (("pin", "led"), InvalidOperation),
                            (("unpin", ("led",)), InvalidOperation), (("pin", ("spared", "f(g, g)", 1)), Refused)]:
            self.assertIs(type(raised(project.trial, good, wrong, ("remove", "z"))), kind)
            self.assertEqual(told_state(project), before)
        self.assertIs(type(raised(project.trial, good, good)), UnknownWord)

    def test_blocks(self):
        project = project_of(SEQ)
        project.symbol("h", 1)
        project.pin(("led",))
        project.undo()
        before = told_state(project)
        with project.block() as same:
            self.assertIs(same, project)
            same.remove("a")
            project.undo(many=3)
            project.put("x", term("a"), ANY)
            self.assertEqual([project.log, project.names], [("put", "put", "put"), ("a", "b", "x")])
        self.assertEqual(told_state(project), before)
        with project.block():
            pass
        self.assertEqual(told_state(project), before)

    def test_blocks_left_by_errors(self):
        project = project_of(SEQ)
        project.undo()
        before = told_state(project)
        for kind in (KeyError, ZeroDivisionError, Refused):
            with self.assertRaises(kind):
                with project.block() as same:
                    same.put("y", term("b"), ANY)
                    raise kind("x")
            self.assertEqual(told_state(project), before)
        with self.assertRaises(UnknownWord):
            with project.block():
                project.redo()
                project.remove("z")
        self.assertEqual(told_state(project), before)

    def test_blocks_in_blocks(self):
        project = project_of(SEQ)
        before = told_state(project)
        with project.block():
            project.remove("a")
            inner = told_state(project)
            with project.block():
                project.undo(many=4)
            self.assertEqual(told_state(project), inner)
            self.assertEqual(project.during(lambda one: one.remove("b")), ())
            self.assertEqual(told_state(project), inner)
        self.assertEqual(told_state(project), before)
        # What is led back to is what is there when the block begins.
        block = project.block()
        project.remove("c")
        behind = told_state(project)
        with block:
            project.remove("b")
        self.assertEqual(told_state(project), behind)

    def test_during(self):
        project = project_of(SEQ)
        project.undo()
        before = told_state(project)
        seen = []
        self.assertEqual(project.during(lambda same: [seen.append(same), same.redo(), same.names][1:]),
                         [(), ("a", "b", "c")])
        self.assertIs(seen[0], project)
        self.assertEqual(told_state(project), before)
        self.assertIs(type(raised(project.during, lambda same: same.remove("z"))), UnknownWord)
        self.assertEqual([told_state(project), project.during(lambda same: None)], [before, None])

    def test_twins(self):
        project = project_of(SEQ)
        project.pin(("led",))
        project.symbol("h", 0)
        project.undo()
        twin = project.twin()
        self.assertEqual([twin == project, twin is project, told_state(twin)], [True, False, told_state(project)])
        before = told_state(project)
        twin.redo()
        twin.remove("b")
        self.assertEqual([told_state(project), twin.log[-2:]], [before, ("symbol", "remove")])
        project.put("x", term("a"), term("b"))
        self.assertEqual([twin.undo(many=2), raised(project.redo).amount, twin.redo(many=2)], [(), 1, ()])
        self.assertNotIn("x", twin)


class Objects(unittest.TestCase):
    def test_names(self):
        project = project_of(SEQ)
        self.assertEqual([list(project), len(project), str(project)], [["a", "b", "c"], 3,
                                                                       "project of 3 rules, 0 sayings"])
        for value in [*all_kinds(), "b", "c", "d", ("a",)]:
            self.assertIs(value in project, isinstance(value, str) and value in ("a", "b", "c"))
        project.pin(("led",))
        self.assertEqual(str(project), "project of 3 rules, 1 sayings")

    def test_equality(self):
        project = project_of(SEQ)
        other = Project(SYMBOLS)
        for name, (pattern, sketch) in list(zip("abc", SEQ.rules))[::-1]:
            other.put(name, pattern, sketch)
        other.symbol("a", 0)
        self.assertEqual(project, other)
        self.assertFalse(project != other)
        named = Project(SYMBOLS)
        for name, (pattern, sketch) in zip("xyz", SEQ.rules):
            named.put(name, pattern, sketch)
        pinned, turned = project.twin(), project.twin()
        for saying in [("led",), ("open",)]:
            pinned.pin(saying)
        for saying in [("open",), ("led",)]:
            turned.pin(saying)
        self.assertNotEqual(pinned, turned)
        changed, wider = project.twin(), project.twin()
        changed.put("c", term("g"), term("a"))
        wider.symbol("h", 0)
        for value in [*all_kinds(), SEQ, named, pinned, turned, project_of(GUS), Project(SYMBOLS), changed, wider]:
            self.assertFalse(project == value)
            self.assertTrue(project != value)

    def test_nothing_is_shared(self):
        symbols = dict(SYMBOLS)
        project = Project(symbols)
        symbols["h"] = 1
        project.book.symbols["h"] = 1
        self.assertEqual([project.book.symbols, symbols], [SYMBOLS, {**SYMBOLS, "h": 1}])
        book, names, pinned, log = project.book, project.names, project.sayings, project.log
        project.put("one", term("a"), ANY)
        project.pin(("looks", "f"))
        self.assertEqual([book, names, pinned, log], [Book(SYMBOLS), (), (), ()])

    def test_interface(self):
        self.assertEqual([module.MAX_SAYINGS, module.MAX_CHANGES], [10, 200])
        for name in LISTED:
            self.assertIn(name, vars(Project))
        for name in PROPERTIES:
            self.assertTrue(hasattr(Project(SYMBOLS), name))

    def test_large_books(self):
        project = project_of(LARGE)
        self.assertEqual(project.book, LARGE)
        self.assertIs(project.does_hold(("needed", "k(d)", 0)), is_needed(LARGE, term("k(d)"), 0))


if __name__ == "__main__":
    unittest.main()
