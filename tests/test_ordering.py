"""Points 48 to 51: the ordering of literals and clauses."""

import random
import unittest

from elenchus.ordering import compare_clauses, compare_literals, is_maximal, literal_terms
from elenchus.weights import Ordering

TRUE = ("true",)
A = ("a",)
B = ("b",)
C = ("c",)
ORDERING = Ordering({}, ["a", "b", "c", "f"])
OPPOSITE = {"greater": "less", "less": "greater", "equal": "equal", "incomparable": "incomparable"}


def f(term):
    return ("f", term)


def p(*arguments, positive=True):
    return (positive, ("p", *arguments), TRUE)


def compared_by_hand(compare, first, second):
    """Compare two lists as multisets, by the definition, with a function for the things in them."""
    left = list(first)
    right = list(second)
    for thing in first:
        same = [other for other in right if compare(thing, other) == "equal"]
        if same:
            left.remove(thing)
            right.remove(same[0])
    if not left and not right:
        return "equal"
    if left and all(any(compare(one, other) == "greater" for one in left) for other in right):
        return "greater"
    if right and all(any(compare(one, other) == "greater" for one in right) for other in left):
        return "less"
    return "incomparable"


def literals_by_hand(first, second):
    return compared_by_hand(ORDERING.compare, terms_by_hand(first), terms_by_hand(second))


def terms_by_hand(literal):
    return list(literal[1:]) if literal[0] else list(literal[1:]) * 2


def random_term(source):
    return source.choice([0, 1, A, B, f(0), f(A), f(B), f(f(0)), ("g", 0, 1), ("g", A, B)])


def random_literal(source):
    positive = source.random() < 0.5
    if source.random() < 0.3:
        return p(random_term(source), positive=positive)
    return (positive, random_term(source), random_term(source))


class Comparing(unittest.TestCase):
    def assert_literals(self, first, second, result):
        self.assertEqual(compare_literals(ORDERING, first, second), result, (first, second))
        self.assertEqual(compare_literals(ORDERING, second, first), OPPOSITE[result], (second, first))

    def assert_clauses(self, first, second, result):
        self.assertEqual(compare_clauses(ORDERING, first, second), result, (first, second))
        self.assertEqual(compare_clauses(ORDERING, second, first), OPPOSITE[result], (second, first))


class Literals(Comparing):
    """Points 48 to 50."""

    def test_the_examples(self):
        ordering = Ordering({}, ["a", "b"])
        self.assertEqual(compare_literals(ordering, (False, A, B), (True, A, B)), "greater")
        self.assertEqual(compare_literals(ordering, (True, A, B), (True, B, A)), "equal")

    def test_the_terms_of_a_literal(self):
        self.assertEqual(literal_terms((True, A, f(0))), [A, f(0)])
        self.assertEqual(literal_terms((False, A, f(0))), [A, A, f(0), f(0)])
        self.assertEqual(literal_terms(p(0)), [("p", 0), TRUE])
        self.assertEqual(literal_terms(p(0, positive=False)), [("p", 0), ("p", 0), TRUE, TRUE])
        self.assertEqual(literal_terms((True, A, A)), [A, A])

    def test_the_list_of_the_terms_is_new(self):
        literal = (False, A, B)
        literal_terms(literal).clear()
        self.assertEqual(literal_terms(literal), [A, A, B, B])

    def test_exchanged_sides(self):
        for positive in (True, False):
            self.assert_literals((positive, f(0), A), (positive, A, f(0)), "equal")
            self.assert_literals((positive, 0, 1), (positive, 1, 0), "equal")
            self.assert_literals((positive, 0, 0), (positive, 0, 0), "equal")

    def test_a_negative_literal_against_a_positive_one(self):
        self.assert_literals((False, A, B), (True, B, A), "greater")
        self.assert_literals((False, 0, 1), (True, 1, 0), "greater")
        self.assert_literals((False, A, A), (True, B, A), "less")
        self.assert_literals((False, A, B), (True, C, A), "less")
        self.assert_literals((False, B, A), (True, B, B), "greater")
        self.assert_literals((False, A, A), (True, A, A), "greater")
        self.assert_literals((False, 0, 0), (True, A, A), "incomparable")
        self.assert_literals(p(0, positive=False), p(0), "greater")

    def test_one_occurrence_against_one(self):
        self.assert_literals((True, B, B), (True, B, A), "greater")
        self.assert_literals((True, B, 0), (True, B, 1), "incomparable")
        self.assert_literals((True, B, B), (True, B, 0), "incomparable")
        self.assert_literals((True, f(0), 0), (True, f(0), f(0)), "less")

    def test_the_greater_side_counts(self):
        self.assert_literals((True, A, C), (True, B, B), "greater")
        self.assert_literals((True, f(A), A), (True, C, C), "greater")
        self.assert_literals((False, f(A), A), (True, f(B), A), "less")
        self.assert_literals((True, f(0), 1), (True, f(A), 0), "incomparable")
        self.assert_literals((True, f(A), 0), (True, C, 0), "greater")

    def test_atoms(self):
        self.assert_literals(p(B), p(A), "greater")
        self.assert_literals(p(0), p(1), "incomparable")
        self.assert_literals(p(0), (True, f(0), 0), "greater")
        self.assert_literals(p(0), (True, f(1), 0), "incomparable")
        self.assert_literals(p(f(0)), (True, f(0), 0), "greater")
        self.assert_literals((True, TRUE, TRUE), p(A), "less")
        self.assert_literals((True, TRUE, TRUE), (True, A, A), "less")
        self.assert_literals((False, TRUE, TRUE), (True, TRUE, TRUE), "greater")
        self.assert_literals((True, TRUE, TRUE), (True, TRUE, TRUE), "equal")

    def test_incomparable_ones(self):
        self.assert_literals((True, 0, A), (True, 1, A), "incomparable")
        self.assert_literals((False, 0, A), (True, 1, A), "incomparable")
        self.assert_literals((True, f(0), f(1)), (True, f(0), f(2)), "incomparable")

    def test_random_literals_by_the_definition(self):
        source = random.Random(50)
        seen = {}
        for _ in range(3000):
            first, second = random_literal(source), random_literal(source)
            expected = literals_by_hand(first, second)
            self.assert_literals(first, second, expected)
            seen[expected] = seen.get(expected, 0) + 1
        self.assertGreater(min(seen.values()), 10)


class Clauses(Comparing):
    """Point 50."""

    def test_the_empty_clause(self):
        self.assert_clauses((), (), "equal")
        self.assert_clauses((), ((True, TRUE, TRUE),), "less")
        self.assert_clauses((), ((True, 0, 1), p(0)), "less")

    def test_the_order_of_the_literals_does_not_count(self):
        self.assert_clauses(((True, A, B), p(0)), (p(0), (True, B, A)), "equal")

    def test_repeated_literals(self):
        first = (True, A, B)
        self.assert_clauses((first, first), (first,), "greater")
        self.assert_clauses((first, (True, B, A)), (first, first), "equal")
        self.assert_clauses((first, first, first), (p(A),), "less")
        self.assert_clauses((first, first), (first, (True, A, A)), "greater")
        self.assert_clauses((first, first, (True, A, A)), (first, (True, A, A), (True, A, A)), "greater")

    def test_one_greater_literal_is_enough(self):
        self.assert_clauses(((True, C, A),), ((True, B, A), (True, B, B), (False, B, A)), "greater")
        self.assert_clauses(((True, C, A), (True, A, A)), ((True, C, A), (True, B, A)), "less")

    def test_a_part_of_a_clause_is_less(self):
        self.assert_clauses((p(0),), (p(0), (True, 0, 1)), "less")

    def test_incomparable_ones(self):
        self.assert_clauses((p(0),), (p(1),), "incomparable")
        self.assert_clauses((p(0), p(1)), (p(0), p(2)), "incomparable")
        self.assert_clauses((p(0), p(B)), (p(1), p(A)), "incomparable")
        self.assert_clauses((p(f(0)),), (p(0), p(A)), "greater")

    def test_random_clauses_by_the_definition(self):
        source = random.Random(51)
        seen = {}
        for _ in range(1500):
            first, second = (tuple(random_literal(source) for _ in range(source.randrange(4))) for _ in range(2))
            if source.random() < 0.5:
                second = first[1:] + second[:2]
            expected = compared_by_hand(literals_by_hand, first, second)
            self.assert_clauses(first, second, expected)
            seen[expected] = seen.get(expected, 0) + 1
        self.assertGreater(min(seen.values()), 10)


class Maximal(unittest.TestCase):
    """Point 51."""

    def places(self, clause, *, strictly=False):
        """Return the indexes of the maximal literals."""
        return [index for index in range(len(clause)) if is_maximal(ORDERING, clause, index, strictly=strictly)]

    def test_the_examples(self):
        ordering = Ordering({}, ["a", "b"])
        self.assertIs(is_maximal(ordering, ((True, 0, A), (True, 1, A)), 0, strictly=True), True)
        self.assertIs(is_maximal(ordering, ((True, B, A), (True, A, B)), 0, strictly=True), False)

    def test_one_literal(self):
        self.assertEqual(self.places((p(0),)), [0])
        self.assertEqual(self.places((p(0),), strictly=True), [0])

    def test_a_greater_literal(self):
        clause = (p(A), p(f(A)), (True, C, A))
        self.assertEqual(self.places(clause), [1])
        self.assertEqual(self.places(clause, strictly=True), [1])

    def test_equal_literals_at_another_index(self):
        clause = ((True, A, B), (True, f(A), B), (True, B, f(A)))
        self.assertEqual(self.places(clause), [1, 2])
        self.assertEqual(self.places(clause, strictly=True), [])
        self.assertIs(is_maximal(ORDERING, clause, 2), True)
        self.assertIs(is_maximal(ORDERING, clause, 0), False)
        self.assertEqual(self.places((p(f(A)), p(A), p(A)), strictly=True), [0])

    def test_incomparable_literals(self):
        clause = (p(0), p(1), (True, 0, 1))
        self.assertEqual(self.places(clause), [0, 1, 2])
        self.assertEqual(self.places(clause, strictly=True), [0, 1, 2])
        clause = (p(0), p(1), p(0))
        self.assertEqual(self.places(clause), [0, 1, 2])
        self.assertEqual(self.places(clause, strictly=True), [1])

    def test_a_negative_literal_and_its_opposite(self):
        self.assertEqual(self.places((p(0), p(0, positive=False))), [1])
        self.assertEqual(self.places((p(0), p(0, positive=False)), strictly=True), [1])


if __name__ == "__main__":
    unittest.main()
