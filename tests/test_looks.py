"""[0.13], [0.18], [12.1] to [12.3]: trees of looks."""

import random
import unittest

from firstneed.base.books import Book
from firstneed.base.terms import Term
from firstneed.errors import InvalidBook, InvalidOperation, InvalidTerm, Refused, TooMany, UnknownWord
from firstneed.need.classes import result_classes
from firstneed.need.places import needed_places
from firstneed.use import looks as module
from firstneed.use.looks import Looks, has_looks, is_settled, is_stuck_paper, looks_of, meeting, stuck_paper
from firstneed.whole.led import Led
from tests.helper import all_kinds, chain, fits, meet, raised, term_of, text_of
from tests.samples import (COND, GUS, LARGE, PLUS, SEQ, SPECIAL, chance_books, chance_term, gapped_book, no_books, term,
                           terms)
from tests.slow import States, few_trees, nested, with_tree

LISTED = ("path", "settled_at", "rule", "__len__", "__eq__", "__str__")
PROPERTIES = ("book", "word", "branches")
# Below f(a, ..) nothing ends, so that all is needed there, and more than 400 nodes are met; f(z, ..) is stuck.
WIDE = Book.read("symbols a 0 b 0 c 0 d 0 e 0 f 3 g 1 z 0", "a => a", "f(a, g(g(g(_))), _) => a",
                 "f(a, _, g(g(g(_)))) => a", "f(z, b, _) => b", "f(z, _, b) => b")
SWAP = {**{word: word for word in WIDE.symbols}, "a": "z", "z": "a"}
NARROW = WIDE.renamed(SWAP)
WITHOUT = WIDE.without(4).without(3)
# Three arguments are looked at in another order than the one in which they stand.
ORDER = Book.read("symbols a 0 b 0 f 3 g 1", "f(_, a, _) => a", "f(a, b, _) => a", "f(b, b, g(a)) => a")
CHANCE = [gapped_book(random.Random(seed)) for seed in range(40)] + chance_books(131, 60)
NO_WORDS = ["h", "_", "#", "", None, 0, (), [], {}, True, ("f",), 10 ** 60]


class Slow:
    """[12.1] and [12.2] by a second reading. Places are rows of arguments here."""

    def __init__(self, book):
        self.book = book
        self.states = States(book, result_classes(book)).close()

    def own(self, tree):
        return [(rule, pattern) for rule, (pattern, _) in enumerate(self.states.rules) if pattern[0] == tree[0]]

    def met(self, tree):
        return [(rule, pattern) for rule, pattern in self.own(tree) if meet(tree, pattern) is not None]

    def settled(self, tree):
        return not self.met(tree) or any(fits(tree, pattern) for _, pattern in self.own(tree))

    def looks(self, tree):
        if self.settled(tree):
            return ()
        found = []
        for place, path in enumerate(paths(tree)):
            asked = [at(pattern, path) for _, pattern in self.met(tree)]
            if at(tree, path) == ("_",) and any(part not in (None, ("_",)) for part in asked):
                if not self.states.state(with_tree(tree, place, ("#",)))[1]:
                    found.append(place)
        return tuple(found)

    def stuck(self, tree):
        return not self.settled(tree) and not self.looks(tree)

    def below(self, tree, look):
        """The trees with each symbol at a look, ascending."""
        bare = [(word, *[("_",)] * self.book.symbols[word]) for word in sorted(self.book.symbols)]
        return [with_tree(tree, look, one) for one in bare]

    def branches(self, word):
        """[12.3]: the nodes of the tree of looks, depth first, up to and with the first stuck one, or the 401st."""
        found, waiting = [], [(word, *[("_",)] * self.book.symbols[word])]
        while waiting and len(found) < 401 and not (found and self.stuck(found[-1][0])):
            tree = waiting.pop(0)
            looks = self.looks(tree)
            found.append((tree, looks[0] if looks else None))
            waiting = (self.below(tree, looks[0]) if looks else []) + waiting
        return found


def paths(tree, ahead=()):
    """The rows of arguments that lead to the nodes, in preorder."""
    return [ahead] + [path for index, inner in enumerate(tree[1:]) for path in paths(inner, (*ahead, index))]


def at(tree, path):
    """The part to which a row of arguments leads, or None."""
    for index in path:
        if index + 1 >= len(tree):
            return None
        tree = tree[index + 1]
    return tree


class Settled(unittest.TestCase):
    def test_by_a_second_reading(self):
        chance = random.Random(132)
        seen = {}
        for book in CHANCE + SPECIAL + [ORDER, WIDE]:
            slow = Slow(book)
            few = [tree for tree in few_trees(book.symbols, 60, ("_",)) if tree[0] != "_"]
            for tree in few + [nested(chance_term(chance, book.symbols, 9).nodes) for _ in range(10)]:
                if tree == ("_",):
                    continue
                one = term_of(tree)
                looks = slow.looks(tree)
                self.assertIs(is_settled(book, one), slow.settled(tree))
                self.assertEqual(looks_of(book, one), looks)
                self.assertEqual(meeting(book, one), tuple(rule for rule, _ in slow.met(tree)))
                kind = "settled" if slow.settled(tree) else "stuck" if not looks else "looked at"
                seen[kind] = seen.get(kind, 0) + 1
        self.assertTrue(len(seen) == 3 and min(seen.values()) > 20, seen)

    def test_instances_of_patterns(self):
        for text in ("f(a, _)", "f(a, f(_, _))", "f(b, a)", "g"):
            self.assertEqual([is_settled(SEQ, term(text)), looks_of(SEQ, term(text))], [True, ()])
        self.assertEqual([meeting(SEQ, term("f(a, _)")), meeting(SEQ, term("g"))], [(0,), (2,)])

    def test_that_meet_none(self):
        for text in ("f(g, _)", "f(b, b)", "a", "f(f(_, _), a)"):
            self.assertEqual([is_settled(SEQ, term(text)), looks_of(SEQ, term(text)), meeting(SEQ, term(text))],
                             [True, (), ()])

    def test_that_meet_some(self):
        self.assertEqual([is_settled(SEQ, term("f(_, _)")), meeting(SEQ, term("f(_, _)"))], [False, (0, 1)])
        self.assertEqual([looks_of(SEQ, term("f(_, _)")), looks_of(SEQ, term("f(b, _)"))], [(1,), (2,)])
        self.assertEqual([meeting(GUS, term("f(a, _, _)")), looks_of(GUS, term("f(a, _, _)"))], [(0, 1), (2,)])
        self.assertEqual([is_settled(GUS, term("f(_, _, _)")), looks_of(GUS, term("f(_, _, _)"))], [False, ()])

    def test_deeper_than_the_arguments(self):
        book = Book.read("symbols a 0 b 0 f 2 g 2", "f(g(_, a), g(b, _)) => a")
        self.assertEqual(looks_of(book, term("f(_, _)")), (1, 2))
        self.assertEqual(looks_of(book, term("f(g(_, _), _)")), (3, 4))
        self.assertEqual(looks_of(book, term("f(g(g(_, _), _), g(_, _))")), (5, 7))
        self.assertEqual(looks_of(book, term("f(g(_, _), g(_, _))")), (3, 5))
        self.assertEqual(looks_of(PLUS.full(), term("add(_, s(_))")), (1,))

    def test_symbols_without_own_rules(self):
        for text in ("a", "b", "f(_, _)"):
            book = Book.read("symbols a 0 b 0 f 2 g 1", "g(f(a, b)) => a")
            self.assertEqual([is_settled(book, term(text)), looks_of(book, term(text)), meeting(book, term(text))],
                             [True, (), ()])

    def test_common_instances_beyond_forty_nodes(self):
        book = Book.read("symbols a 0 f 2 g 1", "f(g(a), _) => a")
        one = term("f(_, " + chain(38) + ")")
        self.assertEqual([len(one), meeting(book, one), is_settled(book, one), looks_of(book, one)],
                         [40, (0,), False, (1,)])

    def test_errors(self):
        for value in no_books():
            for call in (is_settled, looks_of, meeting):
                self.assertIs(type(raised(call, value, 5)), InvalidBook)
        wrong = [value for value in all_kinds() if value != term("a")]
        for value in [*wrong, term("_"), term("#"), term("f(#, a)"), term("h"), term("f(a)"), term("f(h, _)"), SEQ]:
            for call in (is_settled, looks_of, meeting):
                self.assertIs(type(raised(call, SEQ, value)), InvalidTerm)


class Trees(unittest.TestCase):
    def test_by_a_second_reading(self):
        seen = {}
        for book in CHANCE + SPECIAL + [ORDER, WIDE, NARROW, WITHOUT, LARGE]:
            slow = Slow(book)
            for word in book.symbols:
                found = slow.branches(word)
                if slow.stuck(found[-1][0]):
                    kind, error = "stuck", raised(Looks, book, word)
                    self.assertEqual((type(error), error.cause), (Refused, text_of(found[-1][0])))
                elif len(found) > 400:
                    kind, error = "more", raised(Looks, book, word)
                    self.assertEqual((type(error), error.limit), (TooMany, 400))
                else:
                    kind, tree = "all", Looks(book, word)
                    self.assertEqual(tree.branches, tuple((term_of(one), look) for one, look in found))
                    looks = [look for _, look in found if look is not None]
                    self.assertEqual([len(tree), str(tree), tree.book, tree.word],
                                     [len(found), f"{len(found)} nodes, {len(looks)} looks", book, word])
                self.assertIs(has_looks(book, word), kind == "all")
                seen[kind] = seen.get(kind, 0) + 1
        self.assertTrue(len(seen) == 3 and min(seen.values()) > 1, seen)

    def test_an_example(self):
        tree = Looks(SEQ, "f")
        self.assertEqual(tree.branches, tuple(zip(terms(
            "f(_, _)", "f(a, _)", "f(b, _)", "f(b, a)", "f(b, b)", "f(b, f(_, _))", "f(b, g)", "f(f(_, _), _)",
            "f(g, _)"), (1, None, 2, None, None, None, None, None, None))))
        self.assertEqual([str(tree), len(tree), tree.word, tree.book], ["9 nodes, 2 looks", 9, "f", SEQ])

    def test_symbols_without_rules(self):
        for word, text in [("a", "a"), ("k", "k(_)"), ("n", "n")]:
            book = COND.without(2) if word == "k" else SEQ if word == "a" else COND
            tree = Looks(book, word)
            self.assertEqual([tree.branches, str(tree)], [((term(text), None),), "1 nodes, 0 looks"])
        tree = Looks(COND, "k")
        self.assertEqual(tree.branches, ((term("k(_)"), None),))

    def test_looks_in_another_order(self):
        tree = Looks(ORDER, "f")
        self.assertEqual(tree.branches[0], (term("f(_, _, _)"), 2))
        self.assertEqual([tree.path(term("f(b, b, g(a))")), tree.path(term("f(a, a, a)")),
                          tree.path(term("f(a, b, a)"))],
                         [(2, 1, 3, 4), (2,), (2, 1)])
        self.assertEqual([tree.settled_at(term(text)).text for text in ("f(b, b, g(g(a)))", "f(g(a), b, a)")],
                         ["f(b, b, g(g(_)))", "f(g(_), b, _)"])

    def test_ways_of_ground_terms(self):
        chance, some = random.Random(133), 0
        for book in CHANCE + SPECIAL + [ORDER]:
            slow = Slow(book)
            for word in book.symbols:
                if not has_looks(book, word):
                    continue
                tree = Looks(book, word)
                for _ in range(4):
                    inner = [chance_term(chance, book.symbols, 5, leaves=()) for _ in range(book.symbols[word])]
                    self.check_way(book, slow, tree, Term.build(word, *inner))
                    some += len(tree.path(Term.build(word, *inner))) > 1
        self.assertTrue(some > 20, some)

    def check_way(self, book, slow, tree, one):
        now, looks = nested(tree.branches[0][0].nodes), []
        while slow.looks(now):
            looks.append(slow.looks(now)[0])
            sign = at(nested(one.nodes), paths(now)[looks[-1]])[0]
            now = with_tree(now, looks[-1], (sign, *[("_",)] * book.symbols[sign]))
        self.assertEqual([tree.path(one), tree.settled_at(one)], [tuple(looks), term_of(now)])
        fitting = [rule for rule, pattern in slow.own(nested(one.nodes)) if fits(nested(one.nodes), pattern)]
        self.assertEqual(tree.rule(one), fitting[0] if fitting else None)

    def test_the_rule_of_a_term(self):
        tree = Looks(SEQ, "f")
        self.assertEqual([tree.rule(term(text)) for text in ("f(a, b)", "f(b, a)", "f(b, b)", "f(g, a)")],
                         [0, 1, None, None])
        both = Book.read("symbols a 0 b 0 f 2", "f(a, b) => a", "f(a, _) => b", "b => a")
        self.assertEqual([Looks(both, "f").rule(term(text)) for text in ("f(a, b)", "f(a, a)")], [0, 1])
        self.assertEqual(Looks(both, "b").rule(term("b")), 2)

    def test_which_error_is_met_first(self):
        error = raised(Looks, WIDE, "f")
        self.assertEqual((type(error), error.limit), (TooMany, 400))
        error = raised(Looks, NARROW, "f")
        self.assertEqual((type(error), error.cause), (Refused, "f(a, _, _)"))
        error = raised(Looks, WITHOUT, "f")
        self.assertEqual((type(error), error.limit), (TooMany, 400))
        self.assertEqual([has_looks(book, "f") for book in (WIDE, NARROW, WITHOUT)], [False] * 3)

    def test_just_so_many_nodes(self):
        self.assertEqual(module.MAX_LOOKS, 400)
        try:
            for limit, good in [(9, True), (8, False), (1, False)]:
                module.MAX_LOOKS = limit
                self.assertIs(has_looks(SEQ, "f"), good)
                if not good:
                    error = raised(Looks, SEQ, "f")
                    self.assertEqual((type(error), error.limit), (TooMany, limit))
            # f(a, _, _) is the second node: a stuck one is told, even if it is one more than there may be.
            for limit, kind in [(2, Refused), (1, Refused), (0, TooMany)]:
                module.MAX_LOOKS = limit
                self.assertIs(type(raised(Looks, NARROW, "f")), kind)
        finally:
            module.MAX_LOOKS = 400

    def test_what_trees_tell(self):
        # A leaf is settled, and a look is needed: so the looks of a term are needed in it.
        for book in CHANCE:
            for word in book.symbols:
                if has_looks(book, word) and book.symbols[word]:
                    for one, look in Looks(book, word).branches:
                        self.assertIs(is_settled(book, one), look is None)
                        self.assertTrue(look is None or look in needed_places(book, one))

    def test_equality(self):
        tree = Looks(SEQ, "f")
        for value in [*all_kinds(), SEQ, "f", tree.branches, Looks(SEQ, "g"), Looks(SEQ.with_symbol("h", 0), "f"),
                      Led(SEQ)]:
            self.assertFalse(tree == value)
            self.assertTrue(tree != value)
        self.assertEqual(tree, Looks(Book.read(*SEQ.lines), "f"))
        self.assertFalse(tree != Looks(SEQ, "f"))

    def test_interface(self):
        for name in LISTED:
            self.assertIn(name, vars(Looks))
        for name in PROPERTIES:
            self.assertTrue(hasattr(Looks(SEQ, "f"), name))
        with self.assertRaises(TypeError):
            iter(Looks(SEQ, "f"))

    def test_errors(self):
        for value in no_books():
            for call in (Looks, has_looks, stuck_paper):
                self.assertIs(type(raised(call, value, 5)), InvalidBook)
            self.assertIs(type(raised(is_stuck_paper, value, 5, 5)), InvalidBook)
        for word in NO_WORDS:
            for call in (Looks, has_looks, stuck_paper):
                error = raised(call, GUS, word)
                self.assertEqual((type(error), error.asked), (UnknownWord, word))
            error = raised(is_stuck_paper, GUS, word, 5)
            self.assertEqual((type(error), error.asked), (UnknownWord, word))
        tree = Looks(SEQ, "f")
        for value in [*all_kinds(), SEQ, *terms("a", "g", "f(a)", "f(a, _)", "f(#, a)", "f(h, a)", "_", "f(a, b, a)")]:
            for call in (tree.path, tree.settled_at, tree.rule):
                self.assertIs(type(raised(call, value)), InvalidTerm)


class Stuck(unittest.TestCase):
    def all_papers(self, book, word, limit=300):
        """All stuck terms with all looks that lead to them, in any order."""
        slow, found = Slow(book), []
        waiting = [((word, *[("_",)] * book.symbols[word]), ())]
        while waiting and limit > 0:
            tree, looks = waiting.pop()
            limit -= 1
            if slow.stuck(tree):
                found.append((term_of(tree), looks))
            for look in slow.looks(tree):
                waiting.extend((one, (*looks, look)) for one in slow.below(tree, look))
        return found

    def test_papers(self):
        seen = {}
        for book in CHANCE + SPECIAL + [ORDER, WIDE, NARROW, WITHOUT]:
            for word in book.symbols:
                slow = Slow(book)
                found = slow.branches(word)
                if not slow.stuck(found[-1][0]):
                    kind = TooMany if len(found) > 400 else InvalidOperation
                    error = raised(stuck_paper, book, word)
                    self.assertIs(type(error), kind)
                    self.assertEqual(getattr(error, "limit", 400), 400)
                else:
                    kind, paper = Refused, stuck_paper(book, word)
                    self.assertEqual(paper[0], term_of(found[-1][0]))
                    self.assertIs(is_stuck_paper(book, word, paper), True)
                    self.assertEqual(raised(Looks, book, word).cause, paper[0].text)
                seen[kind] = seen.get(kind, 0) + 1
        self.assertTrue(len(seen) == 3, seen)

    def test_other_orders(self):
        # Two arguments are looked at in any order, then two others make it stuck.
        book = Book.read("symbols a 0 b 0 f 3 g 2", "f(a, a, g(b, _)) => b", "f(a, a, g(_, b)) => b",
                         "g(_, _) => g(a, a)")
        papers = self.all_papers(book, "f")
        self.assertTrue(len({paper[1] for paper in papers if paper[0] == papers[0][0]}) > 1)
        some = 0
        for one in CHANCE + [book, GUS, NARROW]:
            for word in one.symbols:
                if one.symbols[word] > 0:
                    for paper in self.all_papers(one, word):
                        self.assertIs(is_stuck_paper(one, word, paper), True)
                        self.check_others(one, word, paper)
                        some += 1
        self.assertTrue(some > 20, some)

    def check_others(self, book, word, paper):
        """No paper any more: one look less or more, a look that is none, or another term."""
        found, looks = paper
        wrong = [(found, looks[:-1])] if looks else []
        wrong += [(found, (*looks, place)) for place in (0, 1, len(found) - 1)]
        wrong += [(found, (0, *looks)), (found, list(looks)), [found, looks], (found.text, looks), (found.nodes, looks)]
        wrong += [(found.with_part(place, term(book.constants[0])), looks) for place in found.unknown
                  if is_settled(book, found.with_part(place, term(book.constants[0])))]
        for value in wrong:
            self.assertIs(is_stuck_paper(book, word, value), False, value)

    def test_values_that_are_none(self):
        good = (term("f(_, _, _)"), ())
        self.assertIs(is_stuck_paper(GUS, "f", good), True)
        for value in [*all_kinds(), [*good], good[:1], (*good, ()), ((), term("f(_, _, _)")), ("f(_, _, _)", ()),
                      (good[0], None), (good[0], []), (good[0], {}), (good[0], 0), (good[0], "f"), (good[0], (1,)),
                      (good[0], (0,)), (term("f(a, _, _)"), ()), (term("f(a, _, _)"), (1,)), (term("_"), ()),
                      (term("f(a, b, _)"), (1, 2)), (term("#"), ()), (term("f(#, _, _)"), ()), (term("g"), ()),
                      (term("h"), ()), (term("f(h, _, _)"), (1,)), (None, ()), (good, ())]:
            self.assertIs(is_stuck_paper(GUS, "f", value), False, value)
        self.assertIs(is_stuck_paper(GUS, "g", good), False)
        self.assertIs(is_stuck_paper(SEQ, "f", (term("f(_, _)"), ())), False)

    def test_values_of_other_kinds_as_looks(self):
        good = stuck_paper(NARROW, "f")
        self.assertEqual(good, (term("f(a, _, _)"), (1,)))
        for looks in [(True,), (1, 1), (-1,), (3,), (2,), (4,), (None,), ("1",), ((1,),), ([],), (10 ** 60,), (1, None),
                      (), [1], {1: 1}, (term("a"),)]:
            self.assertIs(is_stuck_paper(NARROW, "f", (good[0], looks)), False)
        for text in ("f(_, _, _)", "f(b, _, _)", "f(f(_, _, _), _, _)"):
            self.assertIs(is_stuck_paper(NARROW, "f", (term(text), (1,))), False)
        self.assertIs(is_stuck_paper(WIDE, "f", (term("f(z, _, _)"), (1,))), True)
        self.assertIs(is_stuck_paper(WITHOUT, "f", (term("f(z, _, _)"), (1,))), False)


if __name__ == "__main__":
    unittest.main()
