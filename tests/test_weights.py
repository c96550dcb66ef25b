"""Points 44 to 47: the ordering of terms."""

import itertools
import random
import unittest

from elenchus.errors import InvalidOrdering
from elenchus.unify import apply
from elenchus.weights import Ordering

TRUE = ("true",)
A = ("a",)
B = ("b",)
OPPOSITE = {"greater": "less", "less": "greater", "equal": "equal", "incomparable": "incomparable"}


def nested(depth, inner, symbol="s"):
    """Return a term in which `depth` applications stand around the inner term."""
    term = inner
    for _ in range(depth):
        term = (symbol, term)
    return term


def random_term(source, depth, variables=3):
    choice = source.randrange(5 if depth else 3)
    if choice == 0 and variables:
        return source.randrange(variables)
    if choice < 3:
        return A if choice == 1 else B
    if choice == 3:
        return ("f", random_term(source, depth - 1, variables))
    return ("g", random_term(source, depth - 1, variables), random_term(source, depth - 1, variables))


def weight_by_hand(weights, term):
    """Return the weight of a term, by the definition."""
    if not isinstance(term, tuple):
        return 1
    return weights.get(term[0], 1) + sum(weight_by_hand(weights, argument) for argument in term[1:])


def leaves(term):
    """Return the list of the variables of a term, each occurrence counted."""
    if not isinstance(term, tuple):
        return [term]
    return [variable for argument in term[1:] for variable in leaves(argument)]


def greater_by_hand(weights, precedence, first, second):
    """Return True if the first term is greater, by the definition."""
    if any(leaves(first).count(variable) < leaves(second).count(variable) for variable in leaves(second)):
        return False
    if weight_by_hand(weights, first) != weight_by_hand(weights, second):
        return weight_by_hand(weights, first) > weight_by_hand(weights, second)
    if not isinstance(first, tuple) or not isinstance(second, tuple):
        return False
    if first[0] != second[0]:
        ranks = {symbol: rank for rank, symbol in enumerate(precedence)}
        return ((first[0] not in ranks, ranks.get(first[0], 0), first[0])
                > (second[0] not in ranks, ranks.get(second[0], 0), second[0]))
    for argument, other in zip(first[1:], second[1:]):
        if argument != other:
            return greater_by_hand(weights, precedence, argument, other)
    return False


class Comparing(unittest.TestCase):
    def assert_compared(self, ordering, first, second, result):
        self.assertEqual(ordering.compare(first, second), result, (first, second))
        self.assertEqual(ordering.compare(second, first), OPPOSITE[result], (second, first))


class Weights(unittest.TestCase):
    """Point 44."""

    def test_the_example(self):
        self.assertEqual(Ordering({"f": 2}, ["a", "g", "f"]).weight(("f", 0, A)), 4)

    def test_weights_that_are_given_and_that_are_not(self):
        ordering = Ordering({"f": 5, "a": 3}, ["b"])
        self.assertEqual([ordering.symbol_weight(symbol) for symbol in ("f", "a", "b", "c", "true")], [5, 3, 1, 1, 1])
        self.assertEqual(ordering.weight(("g", ("f", A, B), A)), 1 + 5 + 3 + 1 + 3)

    def test_variables_and_true(self):
        ordering = Ordering({"f": 5}, [])
        self.assertEqual(ordering.weight(7), 1)
        self.assertEqual(ordering.weight("X"), 1)
        self.assertEqual(ordering.weight(TRUE), 1)
        self.assertEqual(ordering.weight(("f", 0, 0, 1)), 8)

    def test_great_weights(self):
        self.assertEqual(Ordering({"s": 10 ** 40}, []).weight(nested(99, A)), 99 * 10 ** 40 + 1)


class Making(unittest.TestCase):
    """Points 44 and 45: what an ordering is made with."""

    def assert_invalid(self, weights, precedence):
        with self.assertRaises(InvalidOrdering) as caught:
            Ordering(weights, precedence)
        self.assertIsInstance(caught.exception.reason, str)
        return caught.exception.reason

    def test_weights_that_are_none(self):
        for weight in [0, -1, True, False, None, "1", 1.0, (1,), [], -10 ** 30]:
            self.assert_invalid({"f": weight}, [])
            self.assert_invalid({"a": 1, "f": weight, "g": 2}, ["f"])

    def test_true_has_no_weight_and_no_rank(self):
        self.assert_invalid({"true": 1}, [])
        self.assert_invalid({"a": 2, "true": 2}, [])
        self.assert_invalid({}, ["a", "true"])
        self.assert_invalid({}, ["true"])

    def test_a_symbol_that_stands_twice(self):
        self.assert_invalid({}, ["a", "a"])
        self.assert_invalid({}, ["a", "b", "c", "b"])

    def test_weights_are_checked_first(self):
        for precedence in (["a", "a"], ["true"]):
            self.assertEqual(self.assert_invalid({"f": 0}, precedence), self.assert_invalid({"f": 0}, []))
            self.assertEqual(self.assert_invalid({"true": 3}, precedence), self.assert_invalid({"true": 3}, []))
            self.assertNotEqual(self.assert_invalid({"f": 1}, precedence), self.assert_invalid({"f": 0}, []))

    def test_later_changes_of_what_was_passed(self):
        weights = {"f": 2}
        precedence = ["a", "b"]
        ordering = Ordering(weights, precedence)
        weights["f"] = 0
        weights["a"] = 7
        precedence.reverse()
        precedence.append("a")
        self.assertEqual(ordering.symbol_weight("f"), 2)
        self.assertEqual(ordering.symbol_weight("a"), 1)
        self.assertTrue(ordering.ranks_higher("b", "a"))
        self.assertEqual(ordering.precedence, ["a", "b"])

    def test_the_arguments_are_not_modified(self):
        weights = {"f": 2}
        precedence = ["a"]
        Ordering(weights, precedence).precedence.append("b")
        self.assertEqual((weights, precedence), ({"f": 2}, ["a"]))

    def test_the_precedence_is_new_each_time(self):
        ordering = Ordering({}, ["a", "b"])
        ordering.precedence.append("c")
        ordering.precedence.reverse()
        self.assertEqual(ordering.precedence, ["a", "b"])
        self.assertFalse(ordering.ranks_higher("a", "b"))
        self.assertEqual(Ordering({}, []).precedence, [])


class Ranks(unittest.TestCase):
    """Point 45."""

    def assert_ascending(self, ordering, symbols):
        for index, first in enumerate(symbols):
            for other, second in enumerate(symbols):
                self.assertIs(ordering.ranks_higher(first, second), index > other, (first, second))

    def test_true_and_listed_and_unlisted_symbols(self):
        self.assert_ascending(Ordering({"z": 4}, ["z", "a", "m"]), ["true", "z", "a", "m", "b", "b1", "bA", "b_", "ba"])

    def test_an_empty_precedence(self):
        self.assert_ascending(Ordering({}, []), ["true", "a", "a1", "aZ", "b", "u", "z"])


class Terms(Comparing):
    """Point 46."""

    def test_the_examples(self):
        ordering = Ordering({"f": 2}, ["a", "g", "f"])
        self.assert_compared(ordering, ("f", 0, 1), ("f", 1, 0), "incomparable")
        self.assert_compared(ordering, ("g", A), A, "greater")
        self.assert_compared(ordering, B, A, "greater")
        self.assert_compared(ordering, ("g", 0), ("g", 1), "incomparable")

    def test_equal_terms(self):
        ordering = Ordering({}, [])
        for term in [0, A, ("f", 0, A), TRUE]:
            self.assert_compared(ordering, term, term, "equal")

    def test_variables_must_occur_as_often(self):
        ordering = Ordering({"h": 9}, [])
        self.assert_compared(ordering, ("h", 0), ("f", 0, 0), "incomparable")
        self.assert_compared(ordering, ("h", 0, 0), ("f", 0, 0), "greater")
        self.assert_compared(ordering, ("h", 0, 1), ("f", 0, 2), "incomparable")
        self.assert_compared(ordering, ("h", 0, 1), ("f", 1, A), "greater")
        self.assert_compared(ordering, ("h", A), 0, "incomparable")

    def test_the_weight(self):
        ordering = Ordering({"a": 3, "g": 2}, ["f", "b"])
        self.assert_compared(ordering, A, ("f", B), "greater")
        self.assert_compared(ordering, ("g", 0), ("f", 0), "greater")
        self.assert_compared(ordering, ("f", 0), ("f", A), "incomparable")

    def test_variables(self):
        ordering = Ordering({}, ["a"])
        self.assert_compared(ordering, ("f", 0), 0, "greater")
        self.assert_compared(ordering, ("f", ("f", A, 0), 1), 0, "greater")
        self.assert_compared(ordering, ("f", 0), 1, "incomparable")
        self.assert_compared(ordering, 0, 1, "incomparable")
        for constant in (A, B, TRUE):
            self.assert_compared(ordering, 0, constant, "incomparable")

    def test_variables_of_the_weight_of_an_application(self):
        # The weights are equal here, so a variable is never compared by symbols.
        self.assert_compared(Ordering({}, ["a", "b"]), 0, B, "incomparable")

    def test_the_symbol(self):
        ordering = Ordering({}, ["g", "f", "b"])
        self.assert_compared(ordering, ("f", 0, A), ("g", 0, A), "greater")
        self.assert_compared(ordering, ("f", A, 0), ("g", 0, B), "greater")
        self.assert_compared(ordering, ("f", 0, A), ("g", 0, 0), "incomparable")
        self.assert_compared(ordering, A, B, "greater")
        self.assert_compared(ordering, TRUE, B, "less")
        self.assert_compared(ordering, ("p",), TRUE, "greater")

    def test_the_symbol_before_the_arguments(self):
        ordering = Ordering({}, ["g", "f", "a", "b"])
        self.assert_compared(ordering, ("f", A), ("g", B), "greater")

    def test_the_first_arguments_that_differ(self):
        ordering = Ordering({}, ["a", "b"])
        self.assert_compared(ordering, ("f", A, B, A), ("f", A, A, B), "greater")
        self.assert_compared(ordering, ("f", ("g", A), A), ("f", A, ("g", A)), "greater")
        self.assert_compared(ordering, ("f", ("g", 0), 1), ("f", 0, ("g", 1)), "greater")

    def test_first_arguments_of_which_neither_is_greater(self):
        ordering = Ordering({}, ["a", "b"])
        self.assert_compared(ordering, ("f", 0, 1, B), ("f", 1, 0, A), "incomparable")
        self.assert_compared(ordering, ("f", 0, B, A), ("f", A, B, 0), "incomparable")
        self.assert_compared(ordering, ("f", ("g", 0), 1, B), ("f", ("g", 1), 0, A), "incomparable")
        self.assert_compared(ordering, ("f", 0, ("g", 1)), ("f", 1, ("g", 0)), "incomparable")

    def test_a_greater_argument_does_not_outweigh_missing_variables(self):
        ordering = Ordering({}, ["a", "b"])
        self.assert_compared(ordering, ("f", B, A), ("f", A, 0), "incomparable")
        self.assert_compared(ordering, ("f", ("g", 0), A), ("f", A, ("g", 1)), "incomparable")

    def test_great_weights(self):
        great = 10 ** 50
        ordering = Ordering({"f": great, "g": great - 1, "h": 1}, ["f", "g", "h"])
        self.assert_compared(ordering, ("f", 0), ("g", 0), "greater")
        self.assert_compared(ordering, ("f", A), ("g", ("h", A)), "less")
        self.assert_compared(ordering, ("f", A), nested(98, A, "h"), "greater")

    def test_a_nesting_of_100(self):
        ordering = Ordering({}, ["a", "b", "s", "t"])
        self.assert_compared(ordering, nested(99, B), nested(99, A), "greater")
        self.assert_compared(ordering, nested(99, 0), nested(99, 1), "incomparable")
        self.assert_compared(ordering, nested(99, A), nested(98, A), "greater")
        self.assert_compared(ordering, nested(99, 0), 0, "greater")
        self.assert_compared(ordering, nested(98, ("t", A)), nested(98, ("s", B)), "greater")
        self.assert_compared(ordering, nested(98, ("g", 0, 1)), nested(98, ("g", 1, 0)), "incomparable")

    def test_random_terms_by_the_definition(self):
        source = random.Random(46)
        seen = {}
        for weights, precedence in [({}, ["a", "b", "f", "g"]), ({"f": 2, "b": 3}, ["g", "a"]), ({"a": 4}, [])]:
            ordering = Ordering(weights, precedence)
            for _ in range(1500):
                first, second = (random_term(source, 3, 2) for _ in range(2))
                expected = "equal" if first == second else "incomparable"
                if greater_by_hand(weights, precedence, first, second):
                    expected = "greater"
                if greater_by_hand(weights, precedence, second, first):
                    expected = "less"
                self.assertEqual(ordering.compare(first, second), expected, (first, second))
                seen[expected] = seen.get(expected, 0) + 1
        self.assertGreater(min(seen.values()), 100)


class Facts(unittest.TestCase):
    """Point 47."""

    def setUp(self):
        self.source = random.Random(47)
        self.orderings = [Ordering({}, ["a", "b", "f", "g"]), Ordering({"f": 2, "b": 3}, ["g", "a"])]

    def pairs(self, count, variables):
        """Yield an ordering with two terms of which the first one is greater."""
        found = 0
        while found < count:
            ordering = self.orderings[found % 2]
            first, second = (random_term(self.source, 3, variables) for _ in range(2))
            if ordering.compare(first, second) == "greater":
                found += 1
                yield ordering, first, second

    def test_transitivity(self):
        terms = [random_term(self.source, 2, 2) for _ in range(40)]
        for ordering in self.orderings:
            table = {(i, j): ordering.compare(terms[i], terms[j]) == "greater"
                     for i in range(40) for j in range(40)}
            for i, j, k in itertools.product(range(40), repeat=3):
                if table[i, j] and table[j, k]:
                    self.assertTrue(table[i, k], (terms[i], terms[j], terms[k]))

    def test_terms_without_variables_are_comparable(self):
        for ordering in self.orderings:
            for _ in range(500):
                first, second = (random_term(self.source, 3, 0) for _ in range(2))
                self.assertNotEqual(ordering.compare(first, second), "incomparable", (first, second))

    def test_contexts(self):
        for ordering, first, second in self.pairs(300, 2):
            other = random_term(self.source, 2, 2)
            for make in [lambda term: ("f", term), lambda term: ("g", term, other), lambda term: ("g", other, term)]:
                self.assertEqual(ordering.compare(make(first), make(second)), "greater")

    def test_substitutions(self):
        for ordering, first, second in self.pairs(300, 2):
            substitution = {variable: random_term(self.source, 2, 3) for variable in range(2)}
            self.assertEqual(ordering.compare(apply(substitution, first), apply(substitution, second)), "greater")

    def test_proper_subterms(self):
        for ordering in self.orderings:
            for _ in range(200):
                term = random_term(self.source, 4, 3)
                waiting = list(term[1:]) if isinstance(term, tuple) else []
                while waiting:
                    part = waiting.pop()
                    self.assertEqual(ordering.compare(term, part), "greater")
                    waiting.extend(part[1:] if isinstance(part, tuple) else [])


if __name__ == "__main__":
    unittest.main()
