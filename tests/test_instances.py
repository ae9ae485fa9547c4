"""[0.9], [2.2]: filling and renaming terms, instances, and what two terms have in common."""

import unittest

from firstneed.base.terms import Term
from firstneed.errors import InvalidOperation, InvalidTerm
from tests.helper import (all_kinds, chain, fits, join, meet, nested, raised, size_of, small_trees, takes_of,
                          term_of)

TREES = small_trees(("a", "_", "#"), 4)
PLAIN = small_trees(("a", "b", "_"), 3) + [tree for tree in small_trees(("a", "_"), 4) if size_of(tree) == 4]

WITH_LOST = (("#", "_"), ("#", "#"), ("f(a, #)", "f(_, _)"), ("f(a, #)", "f(a, #)"), ("f(a, #)", "b"), ("#", "a"))


def read(text):
    return Term.read(text)


def no_terms():
    return [value for value in all_kinds() if not isinstance(value, Term)]


class Refusing(unittest.TestCase):
    def assert_refused(self, error, call, *given):
        self.assertIs(type(raised(call, *given)), error, given)


class Filled(Refusing):
    def test_one_term_for_each_leaf_in_their_order(self):
        term = read("f(_, g(_), _)")
        self.assertEqual(term.filled(read("a"), read("b"), read("k(c)")).text, "f(a, g(b), k(c))")
        self.assertEqual(term.filled(read("_"), read("k(_, _)"), read("#")).text, "f(_, g(k(_, _)), #)")
        self.assertEqual(term.text, "f(_, g(_), _)")

    def test_leaf_alone(self):
        for text in ("a", "_", "#", "f(a, _)", chain(40)):
            self.assertEqual(read("_").filled(read(text)), read(text))

    def test_without_leaves(self):
        for text in ("a", "#", "f(a, #)"):
            self.assertEqual(read(text).filled(), read(text))
            self.assert_refused(InvalidOperation, read(text).filled, read("a"))

    def test_lost_leaves_stay(self):
        self.assertEqual(read("f(#, _, #)").filled(read("a")).text, "f(#, a, #)")

    def test_too_few_and_too_many(self):
        term = read("f(_, g(_))")
        for many in (0, 1, 3, 4, 9):
            self.assert_refused(InvalidOperation, term.filled, *[read("a")] * many)

    def test_values_that_are_no_terms(self):
        term = read("f(_, _)")
        for value in no_terms():
            self.assert_refused(InvalidOperation, term.filled, value, read("a"))
            self.assert_refused(InvalidOperation, term.filled, read("a"), value)
            self.assert_refused(InvalidOperation, term.filled, value)
            self.assert_refused(InvalidOperation, read("a").filled, value)
        self.assert_refused(InvalidOperation, term.filled, (read("a"), read("a")))
        self.assert_refused(InvalidOperation, term.filled, [read("a"), read("a")])

    def test_forty_and_forty_one_nodes(self):
        term = read("f(_, g(_))")
        self.assertEqual(len(term.filled(read(chain(19)), read(chain(19)))), 40)
        self.assert_refused(InvalidTerm, term.filled, read(chain(19)), read(chain(20)))
        self.assert_refused(InvalidTerm, term.filled, read(chain(40)), read(chain(40)))

    def test_words_with_two_arities(self):
        self.assert_refused(InvalidTerm, read("f(a, _)").filled, read("a(b)"))
        self.assert_refused(InvalidTerm, read("f(_, _)").filled, read("a"), read("a(b)"))
        self.assert_refused(InvalidTerm, read("f(_)").filled, read("f(a, b)"))

    def test_the_number_of_terms_comes_first(self):
        self.assert_refused(InvalidOperation, read("f(a, _)").filled, read("a(b)"), read("b"))
        self.assert_refused(InvalidOperation, read("f(_, _)").filled, read(chain(40)))
        self.assert_refused(InvalidOperation, read("f(_, _)").filled, read(chain(40)), None)


class Renamed(Refusing):
    def test_other_words(self):
        term = read("f(a, g(_), #)")
        self.assertEqual(term.renamed({"f": "k", "a": "b", "g": "abcdefgh"}).text, "k(b, abcdefgh(_), #)")
        self.assertEqual(term.renamed({"f": "f", "a": "a", "g": "g"}), term)
        self.assertEqual(term.renamed({"f": "a", "a": "g", "g": "f"}).text, "a(g, f(_), #)")
        self.assertEqual(term.text, "f(a, g(_), #)")

    def test_each_place_of_a_word(self):
        term = read("f(f(a, a), f(a, b))").renamed({"a": "b", "b": "a", "f": "k"})
        self.assertEqual(term.text, "k(k(b, b), k(b, a))")
        self.assertEqual(read(chain(40)).renamed({"g": "a", "a": "g"}).text, "a(" * 39 + "g" + ")" * 39)

    def test_without_words(self):
        for leaf in ("_", "#"):
            self.assertEqual(read(leaf).renamed({}).text, leaf)
            self.assert_refused(InvalidOperation, read(leaf).renamed, {leaf: leaf})
            self.assert_refused(InvalidOperation, read(leaf).renamed, {"a": "b"})

    def test_names_stay_as_they_are(self):
        names = {"g": "b", "a": "c"}
        read("g(a)").renamed(names)
        self.assertEqual(list(names.items()), [("g", "b"), ("a", "c")])

    def test_the_order_of_names_has_no_effect(self):
        self.assertEqual(read("g(a)").renamed({"g": "k", "a": "c"}), read("g(a)").renamed({"a": "c", "g": "k"}))

    def test_names_that_leave_a_word_out(self):
        self.assert_refused(InvalidOperation, read("f(a, b)").renamed, {"f": "k", "a": "c"})
        self.assert_refused(InvalidOperation, read("f(a, b)").renamed, {})
        self.assert_refused(InvalidOperation, read("f(a, b)").renamed, {"f": "k", "a": "c", "c": "d"})

    def test_names_with_one_word_more(self):
        self.assert_refused(InvalidOperation, read("g(a)").renamed, {"g": "k", "a": "c", "b": "d"})
        self.assert_refused(InvalidOperation, read("g(_)").renamed, {"g": "k", "_": "_"})
        self.assert_refused(InvalidOperation, read("g(_)").renamed, {"g": "k", "_": "a"})
        self.assert_refused(InvalidOperation, read("a").renamed, {"a": "b", None: "c"})

    def test_names_that_tell_two_words_the_same(self):
        self.assert_refused(InvalidOperation, read("f(a, b)").renamed, {"f": "k", "a": "c", "b": "c"})
        self.assert_refused(InvalidOperation, read("f(a, b)").renamed, {"f": "f", "a": "a", "b": "a"})
        self.assert_refused(InvalidOperation, read("g(a)").renamed, {"g": "a", "a": "a"})

    def test_names_that_are_no_words(self):
        for name in ("", "_", "#", "A", "abcdefghi", "a b", "b\n", 0, True, None, ("b",), ["b"], {}, nested("b", 7),
                     read("b")):
            self.assert_refused(InvalidOperation, read("g(a)").renamed, {"g": "k", "a": name})
            self.assert_refused(InvalidOperation, read("a").renamed, {"a": name})

    def test_names_that_are_no_dict(self):
        for value in all_kinds():
            if value != {"a": "b"}:
                self.assert_refused(InvalidOperation, read("a").renamed, value)
        self.assert_refused(InvalidOperation, read("a").renamed, (("a", "b"),))
        self.assert_refused(InvalidOperation, read("a").renamed, [("a", "b")])


class Instances(Refusing):
    def test_leaves(self):
        for one, other, answer in [("_", "_", True), ("#", "_", True), ("a", "_", True), ("f(_, #)", "_", True),
                                   ("#", "#", True), ("_", "#", False), ("a", "#", False), ("_", "a", False),
                                   ("#", "a", False), ("a", "a", True), ("a", "b", False), ("g(_)", "g(#)", False),
                                   ("g(#)", "g(_)", True), ("f(#, _)", "f(_, _)", True), ("f(_, #)", "f(#, _)", False)]:
            self.assertIs(read(one).is_instance(read(other)), answer, (one, other))

    def test_leaves_need_not_stand_for_the_same(self):
        self.assertIs(read("f(a, b)").is_instance(read("f(_, _)")), True)

    def test_arities_count(self):
        self.assertIs(read("f(a)").is_instance(read("f(a, a)")), False)
        self.assertIs(read("f(a, b)").is_instance(read("f(_)")), False)
        self.assertIs(read("f").is_instance(read("f(_)")), False)
        self.assertIs(read("f(a)").is_instance(read("f")), False)

    def test_all_pairs_of_small_trees(self):
        for one in TREES:
            for other in TREES:
                answer = fits(one, other)
                self.assertIs(term_of(one).is_instance(term_of(other)), answer)
                found = term_of(one).fillings(term_of(other))
                if answer:
                    self.assertEqual(found, tuple([term_of(part) for part in takes_of(one, other)]))
                    self.assertEqual(term_of(other).filled(*found), term_of(one))
                else:
                    self.assertIsNone(found)

    def test_fillings(self):
        for one, other, texts in [("f(a, g(b))", "f(_, _)", ["a", "g(b)"]), ("f(a, g(b))", "f(_, g(_))", ["a", "b"]),
                                  ("f(_, g(#))", "f(_, _)", ["_", "g(#)"]), ("f(a, b)", "_", ["f(a, b)"]),
                                  ("f(k(a, b), c)", "f(_, c)", ["k(a, b)"]), ("a", "a", []), ("#", "#", [])]:
            found = read(one).fillings(read(other))
            self.assertIsInstance(found, tuple)
            self.assertEqual([term.text for term in found], texts)

    def test_no_fillings(self):
        for one, other in [("f(a, b)", "f(b, _)"), ("_", "a"), ("f(_, a)", "f(a, _)"), ("a", "#"), ("g(a)", "f(_, _)")]:
            self.assertIsNone(read(one).fillings(read(other)))

    def test_forty_nodes(self):
        self.assertIs(read(chain(40)).is_instance(read(chain(39).replace("a", "_"))), True)
        self.assertEqual(read(chain(40)).fillings(read(chain(20).replace("a", "_"))), (read(chain(21)),))
        self.assertIs(read(chain(39)).is_instance(read(chain(40))), False)

    def test_values_that_are_no_terms(self):
        for value in no_terms():
            self.assert_refused(InvalidOperation, read("f(a, _)").is_instance, value)
            self.assert_refused(InvalidOperation, read("f(a, _)").fillings, value)

    def test_terms_stay_as_they_are(self):
        one, other = read("f(a, g(b))"), read("f(_, _)")
        self.assertEqual((one.is_instance(other), one.fillings(other)), (one.is_instance(other), one.fillings(other)))
        self.assertEqual((one.text, other.text), ("f(a, g(b))", "f(_, _)"))


class CommonInstance(Refusing):
    def both(self, one, other):
        return one & other

    def test_terms(self):
        for one, other, text in [("f(a, _)", "f(_, b)", "f(a, b)"), ("f(_, _)", "f(_, g(_))", "f(_, g(_))"),
                                 ("_", "_", "_"), ("_", "f(a, _)", "f(a, _)"), ("a", "a", "a"),
                                 ("f(g(_), _)", "f(_, g(a))", "f(g(_), g(a))"),
                                 ("f(_, k(_, b))", "f(g(a), k(g(_), _))", "f(g(a), k(g(_), b))")]:
            self.assertEqual((read(one) & read(other)).text, text)
            self.assertEqual((read(other) & read(one)).text, text)

    def test_none(self):
        for one, other in [("a", "b"), ("f(a, _)", "f(b, _)"), ("g(_)", "a"), ("f(_, a)", "f(_, g(_))"),
                           ("f(_)", "f(_, _)"), ("f(a, _, b)", "f(_, a, a)")]:
            self.assertIsNone(read(one) & read(other))
            self.assertIsNone(read(other) & read(one))

    def test_all_pairs_of_small_trees(self):
        for one in PLAIN:
            for other in PLAIN:
                tree = meet(one, other)
                self.assertEqual(term_of(one) & term_of(other), None if tree is None else term_of(tree))

    def test_all_common_instances_are_instances_of_it(self):
        terms = [term_of(tree) for tree in PLAIN]
        for one in terms:
            for other in terms:
                common = [term for term in terms if term.is_instance(one) and term.is_instance(other)]
                found = one & other
                if found is None:
                    self.assertEqual(common, [])
                else:
                    self.assertTrue(found.is_instance(one) and found.is_instance(other))
                    self.assertTrue(all([term.is_instance(found) for term in common]))

    def test_lost_leaves(self):
        for one, other in WITH_LOST:
            self.assert_refused(InvalidOperation, self.both, read(one), read(other))
            self.assert_refused(InvalidOperation, self.both, read(other), read(one))

    def test_values_that_are_no_terms(self):
        for value in no_terms():
            self.assert_refused(InvalidOperation, self.both, read("f(a, _)"), value)

    def test_forty_and_forty_one_nodes(self):
        self.assertEqual(len(read(f"f({chain(19)}, _)") & read(f"f(_, {chain(20)})")), 40)
        for one, other in [(20, 20), (19, 21), (38, 38)]:
            self.assert_refused(InvalidTerm, self.both, read(f"f({chain(one)}, _)"), read(f"f(_, {chain(other)})"))

    def test_words_with_two_arities(self):
        self.assert_refused(InvalidTerm, self.both, read("f(a, _)"), read("f(_, a(b))"))
        self.assert_refused(InvalidTerm, self.both, read("f(a(b), _)"), read("f(_, a)"))
        self.assert_refused(InvalidTerm, self.both, read("k(f(a), _)"), read("k(_, f(a, a))"))

    def test_none_comes_ahead_of_what_is_no_term(self):
        self.assertIsNone(read("f(a, _, b)") & read("f(_, a(b), c)"))
        self.assertIsNone(read(f"f({chain(30)}, _, b)") & read(f"f(_, {chain(30)}, c)"))

    def test_lost_leaves_come_ahead_of_what_is_no_term(self):
        self.assert_refused(InvalidOperation, self.both, read(f"f({chain(30)}, _, #)"), read(f"f(_, {chain(30)}, _)"))
        self.assert_refused(InvalidOperation, self.both, read("f(a, _, #)"), read("f(_, a(b), _)"))

    def test_terms_stay_as_they_are(self):
        one, other = read("f(a, _)"), read("f(_, b)")
        self.assertEqual(one & other, one & other)
        self.assertEqual((one.text, other.text), ("f(a, _)", "f(_, b)"))


class CommonPattern(Refusing):
    def either(self, one, other):
        return one | other

    def test_terms(self):
        for one, other, text in [("f(a, b)", "f(a, c)", "f(a, _)"), ("a", "b", "_"), ("a", "a", "a"), ("_", "_", "_"),
                                 ("_", "a", "_"),
                                 ("f(g(a), b)", "f(g(b), b)", "f(g(_), b)"), ("f(g(a), b)", "f(k(a, b), b)", "f(_, b)"),
                                 ("g(f(a, b))", "f(a, b)", "_"), ("f(a, g(_))", "f(_, g(a))", "f(_, g(_))"),
                                 ("f(a, b)", "f(b, a)", "f(_, _)"), ("f(a)", "f(a, b)", "_")]:
            self.assertEqual((read(one) | read(other)).text, text)
            self.assertEqual((read(other) | read(one)).text, text)

    def test_all_pairs_of_small_trees(self):
        for one in PLAIN:
            for other in PLAIN:
                found = term_of(one) | term_of(other)
                self.assertEqual(found, term_of(join(one, other)))
                self.assertTrue(term_of(one).is_instance(found) and term_of(other).is_instance(found))

    def test_it_is_an_instance_of_all_others_of_which_both_are(self):
        terms = [term_of(tree) for tree in PLAIN]
        for one in terms[:30]:
            for other in terms:
                for general in terms:
                    if one.is_instance(general) and other.is_instance(general):
                        self.assertTrue((one | other).is_instance(general))

    def test_lost_leaves(self):
        for one, other in WITH_LOST:
            self.assert_refused(InvalidOperation, self.either, read(one), read(other))
            self.assert_refused(InvalidOperation, self.either, read(other), read(one))

    def test_values_that_are_no_terms(self):
        for value in no_terms():
            self.assert_refused(InvalidOperation, self.either, read("f(a, _)"), value)

    def test_large_terms(self):
        self.assertEqual(read(chain(40)) | read(chain(40)), read(chain(40)))
        self.assertEqual((read(chain(40)) | read(chain(39))).text, chain(39).replace("a", "_"))
        self.assertEqual((read(f"f({chain(30)}, a)") | read(f"f(a, {chain(30)})")).text, "f(_, _)")

    def test_words_with_two_arities_between_the_terms(self):
        self.assertEqual((read("f(a, b)") | read("f(a(c), b)")).text, "f(_, b)")
        self.assertEqual((read("f(a, b)") | read("f(b, a(c))")).text, "f(_, _)")

    def test_terms_stay_as_they_are(self):
        one, other = read("f(a, _)"), read("f(b, b)")
        self.assertEqual(one | other, one | other)
        self.assertEqual((one.text, other.text), ("f(a, _)", "f(b, b)"))


if __name__ == "__main__":
    unittest.main()
