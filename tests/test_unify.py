"""Points 3 and 11 to 16: substitutions, matching and unification."""

import random
import unittest

from elenchus.errors import TooLarge
from elenchus.terms import occurs
from elenchus.unify import apply, compose, match, match_all, unify, unify_all

A = ("a",)
B = ("b",)


def nested(depth, inner):
    """Return a term in which `depth` applications stand around the inner term."""
    term = inner
    for _ in range(depth):
        term = ("s", term)
    return term


def wide(count, argument=A):
    """Return a term with this many symbols and variables and a nesting of 2."""
    return ("w", *[argument] * (count - 1))


class TooLargeTest(unittest.TestCase):
    def assert_too_large(self, function, *arguments):
        with self.assertRaises(TooLarge) as caught:
            function(*arguments)
        self.assertEqual(caught.exception.limit, "term")


class Applying(TooLargeTest):
    """Points 11 and 12."""

    def test_the_example(self):
        self.assertEqual(apply({0: ("f", 1), 1: A}, ("g", 0, 1, 2)), ("g", ("f", 1), A, 2))

    def test_all_occurrences_at_once(self):
        self.assertEqual(apply({0: 1, 1: 0}, ("f", 0, 1, ("g", 0))), ("f", 1, 0, ("g", 1)))

    def test_inserted_terms_are_not_searched_again(self):
        self.assertEqual(apply({0: ("f", 0)}, ("f", 0)), ("f", ("f", 0)))
        self.assertEqual(apply({0: 1, 1: 2}, 0), 1)

    def test_variables_without_an_entry_stay(self):
        self.assertEqual(apply({}, ("f", 0, "X")), ("f", 0, "X"))
        self.assertEqual(apply({1: A}, 0), 0)
        self.assertEqual(apply({0: A}, B), B)

    def test_named_variables(self):
        self.assertEqual(apply({"X": ("f", "Y"), "Y": A}, ("g", "X", "Y")), ("g", ("f", "Y"), A))

    def test_the_limit_of_the_size(self):
        self.assertEqual(apply({0: wide(500)}, ("f", 0, wide(499, 1))), ("f", wide(500), wide(499, 1)))
        self.assert_too_large(apply, {0: wide(500)}, ("f", 0, wide(500, 1)))
        self.assertEqual(apply({0: wide(333)}, ("f", 0, 0, 0)), ("f", *[wide(333)] * 3))
        self.assert_too_large(apply, {0: wide(333)}, ("f", 0, 0, 0, 0))
        self.assert_too_large(apply, {0: wide(1000)}, wide(1000, 0))

    def test_the_limit_of_the_nesting(self):
        self.assertEqual(apply({0: nested(50, A)}, nested(49, 0)), nested(99, A))
        self.assert_too_large(apply, {0: nested(50, A)}, nested(50, 0))
        self.assert_too_large(apply, {0: nested(99, A)}, nested(99, 0))


class Composing(TooLargeTest):
    """Points 12 and 13."""

    def test_the_examples(self):
        self.assertEqual(compose({0: ("f", 1)}, {1: A, 2: 0}), {0: ("f", A), 1: A, 2: 0})
        self.assertEqual(compose({0: 1}, {1: 0}), {1: 0})

    def test_the_first_substitution_counts(self):
        self.assertEqual(compose({0: A}, {0: B}), {0: A})
        self.assertEqual(compose({0: 1}, {0: B, 1: A}), {0: A, 1: A})

    def test_no_entry_maps_a_variable_to_itself(self):
        self.assertEqual(compose({0: 0, 1: A}, {2: 2}), {1: A})
        self.assertEqual(compose({0: 1}, {1: 0, 0: B}), {1: 0})
        self.assertEqual(compose({0: 1, 1: 0}, {0: 1, 1: 0}), {})

    def test_empty_substitutions(self):
        self.assertEqual(compose({}, {}), {})
        self.assertEqual(compose({0: A}, {}), {0: A})
        self.assertEqual(compose({}, {0: A}), {0: A})

    def test_the_arguments_stay_and_the_result_is_new(self):
        first, second = {0: 1}, {1: A}
        result = compose(first, second)
        result[5] = B
        self.assertEqual((first, second), ({0: 1}, {1: A}))
        self.assertEqual(compose(first, second), {0: A, 1: A})

    def test_the_limits(self):
        self.assertEqual(compose({0: ("f", 1, 1)}, {1: wide(499)})[0], ("f", wide(499), wide(499)))
        self.assertEqual(compose({0: ("f", 1, 2, 1)}, {1: wide(499)})[0], ("f", wide(499), 2, wide(499)))
        self.assert_too_large(compose, {0: ("f", 1, 2, 1, 2)}, {1: wide(499)})
        self.assertEqual(compose({0: nested(49, 1)}, {1: nested(50, A)})[0], nested(99, A))
        self.assert_too_large(compose, {0: nested(50, 1)}, {1: nested(50, A)})

    def test_the_effect(self):
        source = random.Random(13)
        for _ in range(300):
            first = {variable: random_term(source, 2) for variable in range(4) if source.random() < 0.6}
            second = {variable: random_term(source, 2) for variable in range(4) if source.random() < 0.6}
            term = random_term(source, 3)
            self.assertEqual(apply(compose(first, second), term), apply(second, apply(first, term)))


class Matching(unittest.TestCase):
    """Point 14."""

    def test_the_examples(self):
        self.assertEqual(match(("f", 0, 1), ("f", A, 0)), {0: A, 1: 0})
        self.assertIsNone(match(("f", 0, 0), ("f", A, B)))
        self.assertIsNone(match(0, A, known={0: B}))

    def test_the_term_has_the_variables_of_the_pattern(self):
        self.assertEqual(match(("f", 0, 1), ("f", 1, 0)), {0: 1, 1: 0})
        self.assertIsNone(match(("f", 0, 0), ("f", 0, 1)))
        self.assertEqual(match(0, ("f", 0)), {0: ("f", 0)})
        self.assertIsNone(match(A, 0))
        self.assertIsNone(match(("f", A), ("f", 0)))

    def test_a_variable_may_be_mapped_to_itself(self):
        self.assertEqual(match(0, 0), {0: 0})
        self.assertEqual(match(("f", 0, 1), ("f", 0, A)), {0: 0, 1: A})
        self.assertIsNone(match(("f", 0, 0), ("f", 0, A)))

    def test_symbols_and_numbers_of_arguments(self):
        self.assertEqual(match(A, A), {})
        self.assertIsNone(match(A, B))
        self.assertIsNone(match(("f", 0), ("g", 0)))
        self.assertIsNone(match(("f", 0), ("f", 0, 1)))
        self.assertIsNone(match(("f", 0, 1), ("f", 0)))
        self.assertIsNone(match(("f", ("g", 0)), ("f", A)))

    def test_named_variables(self):
        self.assertEqual(match(("f", "X", 0), ("f", ("g", "X"), "Y")), {"X": ("g", "X"), 0: "Y"})

    def test_several_pairs(self):
        self.assertEqual(match_all([(("f", 0), ("f", A)), (1, 0)]), {0: A, 1: 0})
        self.assertEqual(match_all([(0, A), (("f", 0), ("f", A))]), {0: A})
        self.assertIsNone(match_all([(0, A), (("f", 0), ("f", B))]))
        self.assertIsNone(match_all([(0, A), (A, B)]))

    def test_known_entries(self):
        self.assertEqual(match(("f", 0, 1), ("f", A, B), known={0: A}), {0: A, 1: B})
        self.assertIsNone(match(("f", 0, 1), ("f", A, B), known={1: A}))
        self.assertEqual(match(0, A, known={7: 0}), {0: A, 7: 0})
        self.assertEqual(match(A, A, known={7: 0}), {7: 0})
        self.assertEqual(match(0, A, known={}), {0: A})
        self.assertEqual(match_all([(0, A), (1, B)], known={1: B}), {0: A, 1: B})
        self.assertIsNone(match_all([(0, A), (1, B)], known={1: 1}))

    def test_no_pairs(self):
        self.assertEqual(match_all([]), {})
        self.assertEqual(match_all([], known={3: A}), {3: A})

    def test_known_stays_and_the_result_is_new(self):
        known = {0: A}
        result = match(("f", 0, 1), ("f", A, B), known=known)
        self.assertEqual(result, {0: A, 1: B})
        self.assertEqual(known, {0: A})
        self.assertIsNone(match(("f", 1, 0), ("f", B, B), known=known))
        self.assertEqual(known, {0: A})
        match_all([], known=known)[9] = B
        self.assertEqual(known, {0: A})

    def test_the_pairs_stay(self):
        pairs = [(0, A), (1, B)]
        match_all(pairs)
        self.assertEqual(pairs, [(0, A), (1, B)])

    def test_matching_inverts_applying(self):
        source = random.Random(14)
        for _ in range(500):
            pattern = random_term(source, 3)
            substitution = {variable: random_term(source, 2) for variable in range(5)}
            found = match(pattern, apply(substitution, pattern))
            self.assertEqual(found, {variable: substitution[variable] for variable in found})
            self.assertEqual(apply(found, pattern), apply(substitution, pattern))


class Unifying(TooLargeTest):
    """Points 15 and 16."""

    def test_the_examples(self):
        self.assertEqual(unify(("f", 0, ("g", 1)), ("f", A, 2)), {0: A, 2: ("g", 1)})
        self.assertEqual(unify(("f", 3, 5), ("f", 5, 4)), {4: 3, 5: 3})
        self.assertIsNone(unify(0, ("f", 0)))
        self.assertEqual(unify_all([(0, ("f", 1)), (1, A)]), {0: ("f", A), 1: A})

    def test_no_pairs(self):
        self.assertEqual(unify_all([]), {})

    def test_equal_terms(self):
        for term in [0, A, ("f", 0, ("g", 1))]:
            self.assertEqual(unify(term, term), {})

    def test_equal_variables_are_mapped_to_the_least(self):
        self.assertEqual(unify(3, 5), {5: 3})
        self.assertEqual(unify(5, 3), {5: 3})
        self.assertEqual(unify_all([(9, 8), (8, 7), (2, 9)]), {7: 2, 8: 2, 9: 2})
        self.assertEqual(unify_all([(4, 5), (6, 7), (5, 7)]), {5: 4, 6: 4, 7: 4})
        self.assertEqual(unify_all([(0, 1), (1, A)]), {0: A, 1: A})
        self.assertEqual(unify_all([(0, 1), (2, ("f", 1))]), {1: 0, 2: ("f", 0)})

    def test_idempotence(self):
        unifier = unify_all([(0, ("f", 1)), (1, ("g", 2)), (2, 3)])
        self.assertEqual(unifier, {0: ("f", ("g", 2)), 1: ("g", 2), 3: 2})
        for term in unifier.values():
            self.assertEqual(apply(unifier, term), term)

    def test_only_variables_of_the_pairs(self):
        unifier = unify(("f", 10, 20), ("f", ("g", 20), 30))
        self.assertEqual(unifier, {10: ("g", 20), 30: 20})

    def test_the_occurs_check(self):
        self.assertIsNone(unify(("f", 0), 0))
        self.assertIsNone(unify_all([(0, ("f", 1)), (1, ("f", 0))]))
        self.assertIsNone(unify_all([(0, ("f", 1)), (1, 2), (2, ("g", A, 0))]))
        self.assertIsNone(unify(("f", 0, 0), ("f", 1, ("g", 1))))
        self.assertIsNone(unify(("f", ("g", 0)), ("f", ("g", ("h", A, 0)))))
        self.assertEqual(unify_all([(0, 0), (0, 1), (1, 0)]), {1: 0})

    def test_clashes(self):
        self.assertIsNone(unify(A, B))
        self.assertIsNone(unify(("f", 0), ("g", 0)))
        self.assertIsNone(unify(("f", 0), ("f", 0, 1)))
        self.assertIsNone(unify(("f",), ("f", 0)))
        self.assertIsNone(unify(("f", 0, 0), ("f", A, B)))
        self.assertIsNone(unify_all([(0, A), (0, B)]))
        self.assertIsNone(unify_all([(0, A), (1, B), (0, 1)]))

    def test_the_order_does_not_matter(self):
        source = random.Random(16)
        found = 0
        for _ in range(1000):
            pairs = [(random_term(source, 3), random_term(source, 3)) for _ in range(source.randrange(1, 4))]
            expected = unify_all(pairs)
            exchanged = [pair if source.random() < 0.5 else (pair[1], pair[0]) for pair in pairs]
            source.shuffle(exchanged)
            self.assertEqual(unify_all(exchanged), expected)
            found += expected is not None
        self.assertGreater(found, 100)

    def test_against_a_plain_procedure(self):
        source = random.Random(15)
        for _ in range(2000):
            pairs = [(random_term(source, 3), random_term(source, 3)) for _ in range(source.randrange(1, 4))]
            self.assertEqual(unify_all(pairs), plain_unifier(pairs), pairs)

    def test_the_pairs_stay_and_the_result_is_new(self):
        pairs = [(0, ("f", 1)), (1, A)]
        unify_all(pairs)[1] = B
        self.assertEqual(pairs, [(0, ("f", 1)), (1, A)])
        self.assertEqual(unify_all(pairs), {0: ("f", A), 1: A})

    def test_the_limit_of_the_size(self):
        fitting = unify_all([(0, ("f", 1, 2, 1)), (1, wide(499))])
        self.assertEqual(fitting, {0: ("f", wide(499), 2, wide(499)), 1: wide(499)})
        self.assert_too_large(unify_all, [(0, ("f", 1, 2, 1, 2)), (1, wide(499))])

    def test_the_limit_of_the_nesting(self):
        self.assertEqual(unify_all([(0, nested(49, 1)), (1, nested(50, A))])[0], nested(99, A))
        self.assert_too_large(unify_all, [(0, nested(50, 1)), (1, nested(50, A))])

    def test_terms_that_are_not_in_the_unifier_may_be_too_large(self):
        unifier = unify(("f", 0, 0, 0), ("f", wide(400), wide(400), 1))
        self.assertEqual(unifier, {0: wide(400), 1: wide(400)})

    def test_no_unifier_comes_before_too_large(self):
        large = [(0, ("f", 1, 1, 1)), (1, wide(499))]
        self.assert_too_large(unify_all, large)
        self.assertIsNone(unify_all(large + [(A, B)]))
        self.assertIsNone(unify_all([(A, B)] + large))
        self.assertIsNone(unify_all(large + [(2, ("f", 2))]))
        self.assertIsNone(unify_all(large + [(0, ("f", 1, 1, A))]))

    def test_exponential_terms_on_the_way(self):
        chain = [(k, ("f", k + 1, k + 1)) for k in range(100)]
        other = [(1000 + k, ("f", 1001 + k, 1001 + k)) for k in range(100)]
        together = chain + other + [(0, 1000)]
        self.assert_too_large(unify_all, together)
        self.assertIsNone(unify_all(together + [(100, A), (1100, B)]))
        self.assertIsNone(unify_all(together + [(100, ("g", 1100))]))

    def test_terms_that_meet_exponentially_often(self):
        pairs = []
        for k in range(1, 60):
            pairs.append((k, ("f", ("g", k - 1), ("g", k - 1))))
            pairs.append((1000 + k, ("g", ("f", 999 + k, 999 + k))))
        pairs.append((59, ("f", 1059, 1059)))
        self.assert_too_large(unify_all, pairs)
        self.assertIsNone(unify_all(pairs + [(0, 1000), (1, A)]))

    def test_long_chains(self):
        pairs = [(k, ("s", k + 1)) for k in range(5000)]
        self.assert_too_large(unify_all, pairs)
        self.assertIsNone(unify_all(pairs + [(5000, ("s", 0))]))
        self.assertEqual(unify_all([(k, k + 1) for k in range(5000)]), {k + 1: 0 for k in range(5000)})


def random_term(source, depth):
    """Return a term over a few symbols and variables."""
    if depth == 0 or source.random() < 0.3:
        return source.randrange(5) if source.random() < 0.7 else source.choice([A, B])
    symbol, count = source.choice([("f", 2), ("g", 1), ("h", 3)])
    return (symbol, *[random_term(source, depth - 1) for _ in range(count)])


def plain_unifier(pairs):
    """Return the unifier by eliminating one variable after the other."""
    found = {}
    waiting = list(pairs)
    while waiting:
        first, second = [apply(found, term) for term in waiting.pop()]
        if first == second:
            continue
        if not isinstance(first, tuple) and not isinstance(second, tuple):
            variable, term = max(first, second), min(first, second)
        elif isinstance(first, tuple) and isinstance(second, tuple):
            if first[0] != second[0] or len(first) != len(second):
                return None
            waiting.extend(zip(first[1:], second[1:]))
            continue
        else:
            variable, term = (second, first) if isinstance(first, tuple) else (first, second)
            if occurs(variable, term):
                return None
        found = compose(found, {variable: term})
    return found


if __name__ == "__main__":
    unittest.main()
