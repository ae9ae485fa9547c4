"""[0.8], [2.1], [0.2], [0.4]: how terms are made, what they tell, and their parts."""

import unittest

from firstneed.base import terms
from firstneed.base.terms import Term
from firstneed.errors import InvalidOperation, InvalidTerm, NeedError, UnknownPlace
from tests.helper import (all_kinds, bush, chain, nested, nodes_of, parts_of, raised, size_of, small_trees, term_of,
                          text_of, told)

LISTED = ("build", "read", "children", "part", "above", "with_part", "filled", "renamed", "is_instance", "fillings",
          "__and__", "__or__", "__getitem__", "__len__", "__iter__", "__eq__", "__str__")
PROPERTIES = ("nodes", "text", "symbols", "unknown", "lost", "is_ground", "depth")
TREES = small_trees(("a", "_", "#"), 4)


def no_places(term):
    """Values that are no places of a term."""
    return [-1, len(term), len(term) + 1, -len(term), 10 ** 60, -(10 ** 60), True, False, None, "0", "", (0,), [0],
            {}, {0: 0}, term, nested(0, 8), ("a", 0)]


class Interface(unittest.TestCase):
    def test_constant(self):
        self.assertEqual(terms.MAX_NODES, 40)

    def test_methods_stand_in_the_class_itself(self):
        self.assertEqual(Term.__module__, "firstneed.base.terms")
        for name in LISTED:
            self.assertIn(name, vars(Term))
            self.assertTrue(callable(getattr(Term, name)), name)

    def test_class_methods(self):
        for name in ("build", "read"):
            self.assertIsInstance(vars(Term)[name], classmethod)

    def test_properties_are_there_from_the_beginning(self):
        for term in (Term((("a", 0),)), Term.build("a"), Term.read("a")):
            for name in PROPERTIES:
                self.assertTrue(hasattr(term, name), name)


class Made(unittest.TestCase):
    def assert_invalid(self, *given):
        for nodes in given:
            self.assertIs(type(raised(Term, nodes)), InvalidTerm, nodes)

    def test_one_tree(self):
        for nodes in [(("a", 0),), (("_", 0),), (("#", 0),), (("f", 1), ("_", 0)), (("f", 2), ("a", 0), ("#", 0)),
                      (("f", 3), ("g", 1), ("_", 0), ("_", 0), ("a", 0)), (("f", 1), ("f", 1), ("a", 0))]:
            self.assertEqual(Term(nodes).nodes, nodes)

    def test_small_trees(self):
        for tree in TREES:
            self.assertEqual(Term(nodes_of(tree)).nodes, nodes_of(tree))

    def test_no_node_at_all(self):
        self.assert_invalid(())

    def test_too_short(self):
        self.assert_invalid((("f", 1),), (("f", 2), ("a", 0)), (("f", 3), ("a", 0), ("b", 0)),
                            (("f", 2), ("g", 1), ("a", 0)), (("g", 1), ("g", 1)))

    def test_something_behind_the_tree(self):
        self.assert_invalid((("a", 0), ("b", 0)), (("a", 0), ("a", 0)), (("f", 1), ("a", 0), ("_", 0)),
                            (("a", 0), ("f", 1)), (("a", 0), ("f", 1), ("a", 0)), (("_", 0), ("#", 0)),
                            (("f", 2), ("a", 0), ("b", 0), ("f", 2), ("a", 0), ("b", 0)))

    def test_something_that_is_no_node(self):
        for wrong in [("A", 0), ("", 0), ("a", 4), ("a", -1), ("a", False), ("_", 1), ("#", 1), ("_", False), ["a", 0],
                      ("a",), ("a", 0, 0), "a", None, 0, ("a", 10 ** 60), ("abcdefghi", 0), (("a", 0),),
                      Term.build("a"), nested("a", 6)]:
            self.assert_invalid((wrong,), (("f", 1), wrong), (wrong, ("b", 0)), (("f", 2), ("b", 0), wrong))
        self.assert_invalid((("f", True), ("a", 0)), (("_", 1), ("a", 0)), (("f", 4), *[("a", 0)] * 4))

    def test_values_of_other_kinds(self):
        for value in all_kinds():
            if value != (("f", 1), ("a", 0)) and value != (("a", 0),):
                self.assert_invalid(value)
        self.assert_invalid([("a", 0)], [("f", 1), ("a", 0)], {("a", 0): 0}, "a", Term.build("a"), "f(a)")

    def test_words_with_two_arities(self):
        self.assert_invalid((("a", 1), ("a", 0)), (("f", 2), ("a", 0), ("a", 1), ("b", 0)),
                            (("f", 1), ("g", 1), ("f", 2), ("a", 0), ("a", 0)),
                            (("f", 3), ("f", 0), ("a", 0), ("a", 0)))

    def test_at_most_forty_nodes(self):
        for text in (chain(40), bush(40)):
            self.assertEqual(len(Term(nodes_of(told(text)))), 40)
        self.assert_invalid((("g", 1),) * 40 + (("a", 0),), (("h", 3),) * 13 + (("a", 0),) * 27 + (("a", 0),))
        self.assert_invalid((("f", 2), ("_", 0)) * 20 + (("_", 0),), (("a", 0),) * 41, (("g", 1),) * 4000 + (("a", 0),))

    def test_it_keeps_nothing_but_its_nodes(self):
        nodes = (("f", 2), ("a", 0), ("_", 0))
        Term(nodes)
        self.assertEqual(nodes, (("f", 2), ("a", 0), ("_", 0)))


class Built(unittest.TestCase):
    def assert_invalid(self, *given):
        self.assertIs(type(raised(Term.build, *given)), InvalidTerm, given)

    def test_no_arguments(self):
        for sign in ("a", "cons", "abcdefgh", "_", "#"):
            self.assertEqual(Term.build(sign).nodes, ((sign, 0),))

    def test_arguments_in_their_order(self):
        one, two, three = Term.read("g(a)"), Term.read("_"), Term.read("k(#, b)")
        self.assertEqual(Term.build("f", one).text, "f(g(a))")
        self.assertEqual(Term.build("f", one, two).text, "f(g(a), _)")
        self.assertEqual(Term.build("f", one, two, three).text, "f(g(a), _, k(#, b))")
        self.assertEqual(Term.build("f", three, one, one).text, "f(k(#, b), g(a), g(a))")
        self.assertEqual([one.text, two.text, three.text], ["g(a)", "_", "k(#, b)"])

    def test_four_arguments(self):
        self.assert_invalid("f", *[Term.build("a")] * 4)
        self.assert_invalid("f", *[Term.build("a")] * 5)

    def test_leaves_take_no_arguments(self):
        for leaf in ("_", "#"):
            for many in (1, 2, 3, 4):
                self.assert_invalid(leaf, *[Term.build("a")] * many)

    def test_words_that_are_none(self):
        for word in ("", "A", "a b", "abcdefghi", "a1", "f(a)", "__", "a\n", "x" * 9000, None, 0, True, ("a",), ["a"],
                     {}, ("a", 0), Term.build("a"), nested("a", 8)):
            self.assert_invalid(word)
            self.assert_invalid(word, Term.build("a"))

    def test_arguments_that_are_no_terms(self):
        for value in all_kinds():
            if not isinstance(value, Term):
                self.assert_invalid("f", value)
                self.assert_invalid("f", Term.build("a"), value)
                self.assert_invalid("f", value, Term.build("a"), Term.build("b"))

    def test_words_with_two_arities(self):
        self.assert_invalid("a", Term.build("a"))
        self.assert_invalid("f", Term.read("g(f(a))"), Term.build("a"))
        self.assert_invalid("f", Term.read("a"), Term.read("a(b)"))

    def test_forty_and_forty_one_nodes(self):
        self.assertEqual(Term.build("g", Term.read(chain(39))), Term.read(chain(40)))
        self.assert_invalid("g", Term.read(chain(40)))
        self.assertEqual(len(Term.build("f", Term.read(chain(19)), Term.read(chain(20)))), 40)
        self.assert_invalid("f", Term.read(chain(20)), Term.read(chain(20)))
        self.assert_invalid("f", *[Term.read(chain(40))] * 3)

    def test_same_as_made_of_nodes(self):
        self.assertEqual(Term.build("f", Term.build("a"), Term.build("_")), Term((("f", 2), ("a", 0), ("_", 0))))


class Told(unittest.TestCase):
    def test_one_node(self):
        for sign in ("a", "_", "#"):
            term = Term.build(sign)
            self.assertEqual((term.nodes, term.text, len(term), term.depth), (((sign, 0),), sign, 1, 1))
            self.assertEqual((term.children(0), term.part(0), term.above(0)), ((), term, (0,)))

    def test_small_trees(self):
        for tree in TREES:
            nodes, term = nodes_of(tree), term_of(tree)
            self.assertEqual((term.nodes, term.text, str(term)), (nodes, text_of(tree), text_of(tree)))
            self.assertEqual(len(term), len(nodes))
            self.assertEqual(term.unknown, tuple([at for at, node in enumerate(nodes) if node == ("_", 0)]))
            self.assertEqual(term.lost, tuple([at for at, node in enumerate(nodes) if node == ("#", 0)]))
            self.assertIs(term.is_ground, not {("_", 0), ("#", 0)} & set(nodes))
            self.assertEqual(term.symbols, {sign: arity for sign, arity in nodes if sign not in ("_", "#")})

    def test_symbols_are_ascending(self):
        for text in ("k(z, f(b, a), cons)", "z(y(x(b, a)))", "f(a, b)", "bb(b, a, aa)"):
            symbols = Term.read(text).symbols
            self.assertEqual(list(symbols), sorted(symbols))
        self.assertEqual(list(Term.read("k(z, f(b, _), z)").symbols.items()), [("b", 0), ("f", 2), ("k", 3), ("z", 0)])

    def test_leaves_are_no_symbols(self):
        self.assertEqual(Term.read("f(_, #)").symbols, {"f": 2})
        self.assertEqual([Term.build("_").symbols, Term.build("#").symbols], [{}, {}])

    def test_symbols_can_be_changed_without_harm(self):
        term = Term.read("f(a, _)")
        term.symbols["a"] = 3
        term.symbols.clear()
        self.assertEqual((term.symbols, term.text), ({"a": 0, "f": 2}, "f(a, _)"))

    def test_ground(self):
        for text, ground in [("a", True), ("f(a, g(b))", True), ("_", False), ("#", False), ("f(a, _)", False),
                             ("f(#, a)", False), ("f(_, #)", False), ("g(g(g(_)))", False), (chain(40), True)]:
            self.assertIs(Term.read(text).is_ground, ground, text)

    def test_unknown_and_lost(self):
        term = Term.read("f(_, g(#), k(_, #, _))")
        self.assertEqual((term.unknown, term.lost), ((1, 5, 7), (3, 6)))

    def test_depth(self):
        for text, depth in [("a", 1), ("g(a)", 2), ("f(a, b)", 2), ("f(g(a), b)", 3), ("f(a, g(g(_)))", 4),
                            ("f(g(a), g(b), a)", 3), ("f(a, f(g(g(#)), a, b), g(c))", 5), (chain(40), 40),
                            ("f(f(f(a, b), c), f(f(d, f(e, h)), i))", 5), (bush(40), 14)]:
            self.assertEqual(Term.read(text).depth, depth, text)

    def test_forty_nodes(self):
        term = Term.read(chain(40))
        self.assertEqual((len(term), term.symbols, term.unknown), (40, {"a": 0, "g": 1}, ()))
        self.assertEqual((term.children(38), term.children(39), term.above(39)), ((39,), (), tuple(range(40))))

    def test_properties_are_tuples(self):
        term = Term.read("f(a, _)")
        self.assertIsInstance(term.nodes, tuple)
        self.assertIsInstance(term.unknown, tuple)
        self.assertIsInstance(term.lost, tuple)


class Places(unittest.TestCase):
    def test_children(self):
        term = Term.read("f(g(a), k(_, b, g(c)), a)")
        self.assertEqual([term.children(at) for at in range(len(term))],
                         [(1, 3, 8), (2,), (), (4, 5, 6), (), (), (7,), (), ()])

    def test_above(self):
        term = Term.read("f(g(a), k(_, b, g(c)), a)")
        self.assertEqual([term.above(at) for at in range(len(term))],
                         [(0,), (0, 1), (0, 1, 2), (0, 3), (0, 3, 4), (0, 3, 5), (0, 3, 6), (0, 3, 6, 7), (0, 8)])

    def test_part(self):
        term = Term.read("f(g(a), k(_, #, g(c)), a)")
        self.assertEqual([term.part(at).text for at in range(len(term))],
                         ["f(g(a), k(_, #, g(c)), a)", "g(a)", "a", "k(_, #, g(c))", "_", "#", "g(c)", "c", "a"])

    def test_parts_of_small_trees(self):
        for tree in TREES:
            term = term_of(tree)
            parts = parts_of(tree)
            self.assertEqual([term.part(at) for at in range(len(term))], [term_of(part) for part in parts])
            for at, part in enumerate(parts):
                inside = [place for place in range(len(term)) if at in range(place, place + size_of(parts[place]))]
                self.assertEqual(term.above(at), tuple(inside))
                self.assertEqual([parts[place] for place in term.children(at)], list(part[1:]))
                self.assertEqual([term.above(place)[-2] for place in term.children(at)], [at] * len(part[1:]))

    def test_item(self):
        term = Term.read("f(g(a), _, #)")
        self.assertEqual([term[at] for at in range(5)], [("f", 3), ("g", 1), ("a", 0), ("_", 0), ("#", 0)])

    def test_unknown_places(self):
        for text in ("a", "f(g(a), _)", chain(40)):
            term = Term.read(text)
            for place in no_places(term):
                for call in (term.children, term.part, term.above, term.__getitem__):
                    error = raised(call, place)
                    self.assertIs(type(error), UnknownPlace, place)
                    self.assertEqual(error.spot, place)
                    self.assertIs(type(error.spot), type(place))
            self.assertEqual(term.text, text)


class WithPart(unittest.TestCase):
    def test_with_part(self):
        term, other = Term.read("f(g(a), k(_, b), a)"), Term.read("k(#, b)")
        self.assertEqual([term.with_part(at, other).text for at in range(len(term))],
                         ["k(#, b)", "f(k(#, b), k(_, b), a)", "f(g(k(#, b)), k(_, b), a)", "f(g(a), k(#, b), a)",
                          "f(g(a), k(k(#, b), b), a)", "f(g(a), k(_, k(#, b)), a)", "f(g(a), k(_, b), k(#, b))"])
        self.assertEqual((term.text, other.text), ("f(g(a), k(_, b), a)", "k(#, b)"))

    def test_its_own_part(self):
        for tree in TREES:
            term = term_of(tree)
            for at in range(len(term)):
                self.assertEqual(term.with_part(at, term.part(at)), term)

    def test_forty_and_forty_one_nodes(self):
        term = Term.read("f(a, g(b))")
        self.assertEqual(len(term.with_part(1, Term.read(chain(37)))), 40)
        self.assertIs(type(raised(term.with_part, 1, Term.read(chain(38)))), InvalidTerm)
        self.assertEqual(len(term.with_part(2, Term.read(chain(38)))), 40)
        self.assertIs(type(raised(term.with_part, 2, Term.read(chain(39)))), InvalidTerm)
        self.assertEqual(term.with_part(0, Term.read(chain(40))).text, chain(40))
        self.assertEqual(term.text, "f(a, g(b))")

    def test_words_with_two_arities(self):
        term = Term.read("f(a, b)")
        self.assertIs(type(raised(term.with_part, 1, Term.read("b(c)"))), InvalidTerm)
        self.assertIs(type(raised(term.with_part, 2, Term.read("g(f)"))), InvalidTerm)
        self.assertEqual(term.with_part(1, Term.read("a(c)")).text, "f(a(c), b)")

    def test_other_that_is_no_term(self):
        term = Term.read("f(a, _)")
        for value in all_kinds():
            if not isinstance(value, Term):
                self.assertIs(type(raised(term.with_part, 1, value)), InvalidOperation)
        self.assertIs(type(raised(term.with_part, 0, ("a", 0))), InvalidOperation)
        self.assertIs(type(raised(term.with_part, 0, (("a", 0),))), InvalidOperation)

    def test_the_place_comes_first(self):
        term = Term.read("f(a, _)")
        for place in no_places(term):
            for other in (None, "a", Term.build("a"), Term.read(chain(40)), Term.read("g(f)")):
                error = raised(term.with_part, place, other)
                self.assertIs(type(error), UnknownPlace)
                self.assertEqual(error.spot, place)
        self.assertEqual(term.text, "f(a, _)")


class Operators(unittest.TestCase):
    def test_iteration_yields_the_nodes(self):
        term = Term.read("f(g(a), _, #)")
        self.assertEqual(list(term), [("f", 3), ("g", 1), ("a", 0), ("_", 0), ("#", 0)])
        self.assertEqual([node for node in term], list(term.nodes))
        self.assertEqual(list(Term.read(chain(40))), [("g", 1)] * 39 + [("a", 0)])

    def test_in(self):
        term = Term.read("f(g(a), _)")
        for node in (("f", 2), ("g", 1), ("a", 0), ("_", 0)):
            self.assertIs(node in term, True)
            self.assertIs(node not in term, False)
        for value in (("f", 1), ("f", 0), ("a", 1), ("#", 0), ("b", 0), "f", "a", "_", "", 0, 2, None, True, (), ("f",),
                      ["f", 2], ("f", 2, 0), (("f", 2),), term, term.part(1), Term.build("a"), term.nodes, {}):
            self.assertIs(value in term, False, value)

    def test_in_takes_no_boolean_for_an_arity(self):
        term = Term.read("f(g(a), _)")
        for value in (("g", True), ("a", False), ("_", False)):
            self.assertIs(value in term, False, value)

    def test_in_takes_every_value(self):
        for value in all_kinds():
            self.assertIs(value in Term.read("f(a)"), value == ("a", 0))

    def test_equal(self):
        for one in TREES:
            for other in TREES:
                self.assertIs(term_of(one) == term_of(other), one == other)
                self.assertIs(term_of(one) != term_of(other), one != other)

    def test_equal_terms_of_different_calls(self):
        text = "f(g(a), _, #)"
        equals = [Term.read(text), Term(nodes_of(told(text))), Term.read(text).part(0),
                  Term.read("k(f(g(a), _, #))").part(1), Term.read(text).filled(Term.build("_")),
                  Term.build("f", Term.read("g(a)"), Term.build("_"), Term.build("#")),
                  Term.read("f(b, _, #)").with_part(1, Term.read("g(a)")),
                  Term.read("k(g(b), _, #)").renamed({"k": "f", "g": "g", "b": "a"})]
        for one in equals:
            for other in equals:
                self.assertIs(one == other, True)
                self.assertIs(one != other, False)

    def test_equal_to_no_other_value(self):
        term = Term.build("a")
        for value in [*all_kinds(), (("a", 0),), "a", term.nodes, [("a", 0)], 0]:
            if not isinstance(value, Term):
                self.assertIs(term == value, False)
                self.assertIs(term != value, True)
        self.assertIs(Term.build("_") == "_", False)

    def test_unlike_terms(self):
        for one, other in [("f(a, b)", "f(b, a)"), ("_", "#"), ("a", "_"), ("g(a)", "a"), ("f(g(a), b)", "f(a, g(b))"),
                           ("f(a, b)", "f(a)"), ("f(a)", "g(a)")]:
            self.assertIs(Term.read(one) == Term.read(other), False)
            self.assertIs(Term.read(one) != Term.read(other), True)

    def test_str_is_the_text(self):
        for text in ("_", "#", "a", "f(a, _, g(#))", chain(40), bush(40)):
            self.assertEqual((str(Term.read(text)), f"{Term.read(text)}"), (text, text))

    def test_calls_leave_the_term_as_it_is(self):
        text = "f(g(a), _, #)"
        term = Term.read(text)
        for call in (term.children, term.part, term.above, term.filled, term.renamed, term.is_instance, term.fillings,
                     term.__and__, term.__or__, term.__eq__, term.__getitem__, lambda value: value in term):
            for value in all_kinds():
                try:
                    call(value)
                except (NeedError, UnknownPlace):
                    pass
                self.assertEqual((term.text, term.nodes), (text, nodes_of(told(text))))


if __name__ == "__main__":
    unittest.main()
