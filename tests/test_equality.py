"""Points 64 and 68 to 70: equality resolution and equality factoring."""

import random
import unittest

from elenchus.clauses import normal
from elenchus.equality import factor, factorings, resolutions, resolve
from elenchus.errors import InvalidSelection, TooLarge
from elenchus.ordering import is_maximal
from elenchus.selection import selected
from elenchus.simplify import clean
from elenchus.structures import Structure, clause_holds
from elenchus.unify import apply, unify
from elenchus.weights import Ordering

TRUE = ("true",)
A = ("a",)
B = ("b",)
C = ("c",)
ORDERING = Ordering({}, ["a", "b", "c", "f", "g"])


def f(term):
    return ("f", term)


def g(first, second):
    return ("g", first, second)


def p(*arguments, positive=True):
    return (positive, ("p", *arguments), TRUE)


def not_p(*arguments):
    return p(*arguments, positive=False)


def equal(left, right):
    return (True, left, right)


def unequal(left, right):
    return (False, left, right)


def after(substitution, clause):
    return tuple((sign, apply(substitution, left), apply(substitution, right)) for sign, left, right in clause)


def is_eligible(clause, index, unifier, selection):
    """Return True if the literal is eligible, by the definition of point 53."""
    chosen = selected(ORDERING, clause, selection)
    return chosen == index if chosen is not None else is_maximal(ORDERING, after(unifier, clause), index)


def resolutions_by_hand(selection, clause):
    found = []
    for index, (positive, left, right) in enumerate(clause):
        if not positive and right != TRUE:
            m = unify(left, right)
            if m is not None and is_eligible(clause, index, m, selection):
                raw = after(m, clause[:index] + clause[index + 1:])
                found.append((index, normal(clean(raw)), raw, m))
    return found


def factorings_by_hand(selection, clause):
    found = []
    places = [(index, side) for index in range(len(clause)) for side in (0, 1)]
    for i, side in places:
        for j, other in places:
            one, two = clause[i], clause[j]
            if i == j or not one[0] or not two[0] or (one[2] == TRUE) != (two[2] == TRUE):
                continue
            if one[2] == TRUE and (side, other) != (0, 0):
                continue
            s, t, u, v = one[1 + side], one[2 - side], two[1 + other], two[2 - other]
            m = unify(s, u)
            if m is None or ORDERING.compare(apply(m, s), apply(m, t)) in ("less", "equal"):
                continue
            if is_eligible(clause, i, m, selection):
                literals = clause[:i] + clause[i + 1:] + (() if one[2] == TRUE else (unequal(t, v),))
                raw = after(m, literals)
                found.append(((i, side), (j, other), normal(clean(raw)), raw, m))
    return found


def random_term(source, depth):
    choice = source.randrange(6 if depth else 4)
    if choice < 2:
        return source.randrange(3)
    if choice < 4:
        return A if choice == 2 else B
    return f(random_term(source, depth - 1)) if choice == 4 else g(random_term(source, depth - 1), A)


def random_clause(source):
    literals = []
    for _ in range(source.randrange(1, 5)):
        positive = source.random() < 0.7
        if source.random() < 0.3:
            literals.append((positive, ("p", random_term(source, 1)), TRUE))
        else:
            literals.append((positive, random_term(source, 1), random_term(source, 1)))
    return tuple(literals)


def random_structure(source):
    pairs = [(i, j) for i in range(2) for j in range(2)]
    return Structure(
        2, {"a": {(): source.randrange(2)}, "b": {(): source.randrange(2)},
            "f": {(i,): source.randrange(2) for i in range(2)}, "g": {pair: source.randrange(2) for pair in pairs}},
        {"p": {(i,): source.random() < 0.6 for i in range(2)}})


class Resolution(unittest.TestCase):
    """Point 69."""

    def test_the_example(self):
        ordering = Ordering({}, ["a", "b", "f"])
        clause = ((False, ("f", 0), ("f", A)), (True, 0, B))
        self.assertEqual([(row[0], row[1]) for row in resolutions(ordering, 1, clause)], [(0, ((True, A, B),))])

    def test_the_conclusion(self):
        clause = (p(1), unequal(g(0, B), g(f(1), 2)), p(0), p(2))
        ordering = Ordering({"g": 9}, [])
        raw = (p(1), p(f(1)), p(B))
        self.assertEqual(resolve(ordering, 0, clause, 1), ((p(0), p(f(0)), p(B)), raw, {0: f(1), 2: B}))
        self.assertEqual(resolutions(ordering, 0, clause), [(1, (p(0), p(f(0)), p(B)), raw, {0: f(1), 2: B})])

    def test_cleaning_and_normal_form(self):
        clause = (unequal(5, 3), p(5), p(3), unequal(3, 5), unequal(4, 4))
        result = resolve(ORDERING, 1, clause, 0)
        self.assertEqual(result, ((p(0),), (p(3), p(3), unequal(3, 3), unequal(4, 4)), {5: 3}))

    def test_the_empty_conclusion(self):
        self.assertEqual(resolve(ORDERING, 0, (unequal(0, A),), 0), ((), (), {0: A}))
        self.assertEqual(resolve(ORDERING, 0, (unequal(A, A),), 0), ((), (), {}))

    def test_sides_without_a_unifier(self):
        for literal in [unequal(A, B), unequal(0, f(0)), unequal(g(0, A), g(B, 0))]:
            self.assertIsNone(resolve(ORDERING, 0, (literal,), 0))
            self.assertEqual(resolutions(ORDERING, 0, (literal,)), [])

    def test_a_literal_that_is_not_eligible(self):
        clause = (unequal(0, A), p(B))
        self.assertIsNone(resolve(ORDERING, 0, clause, 0))
        self.assertIsNotNone(resolve(ORDERING, 1, clause, 0))
        clause = (unequal(0, A), unequal(f(1), f(2)))
        self.assertEqual([[row[0] for row in resolutions(ORDERING, selection, clause)] for selection in range(3)],
                         [[1], [1], [0]])
        # The literal is maximal before its unifier is applied, but not after it.
        clause = (unequal(0, B), equal(f(1), 1), p(0))
        self.assertEqual([row[0] for row in resolutions(ORDERING, 0, clause)], [])

    def test_equal_negative_literals(self):
        clause = (unequal(0, A), unequal(A, 0))
        self.assertEqual([row[:2] for row in resolutions(ORDERING, 0, clause)], [(0, ()), (1, ())])

    def test_literals_that_are_no_negative_equations(self):
        clause = (equal(0, A), p(0), not_p(0), (False, TRUE, TRUE), (True, TRUE, TRUE))
        for selection in range(3):
            self.assertEqual(resolutions(ORDERING, selection, clause), [])
            for index in range(-1, 6):
                self.assertIsNone(resolve(ORDERING, selection, clause, index))
            for literal in clause:
                self.assertEqual(resolutions(ORDERING, selection, (literal,)), [])
                self.assertIsNone(resolve(ORDERING, selection, (literal,), 0))

    def test_indexes_that_do_not_exist(self):
        for index in (-1, 1, 7):
            self.assertIsNone(resolve(ORDERING, 0, (unequal(0, A),), index))

    def test_the_empty_clause(self):
        self.assertEqual(resolutions(ORDERING, 0, ()), [])
        self.assertIsNone(resolve(ORDERING, 0, (), 0))

    def test_random_clauses_by_the_definition(self):
        source = random.Random(69)
        counts = [0, 0, 0]
        for _ in range(1500):
            clause = random_clause(source)
            for selection in range(3):
                found = resolutions(ORDERING, selection, clause)
                self.assertEqual(found, resolutions_by_hand(selection, clause), clause)
                counts[selection] += len(found)
                for index in range(len(clause)):
                    expected = [row[1:] for row in found if row[0] == index]
                    self.assertEqual([resolve(ORDERING, selection, clause, index)], expected or [None])
        self.assertGreater(min(counts), 50)


class Factoring(unittest.TestCase):
    """Point 70."""

    def test_the_example(self):
        ordering = Ordering({}, ["a", "b", "f"])
        clause = ((True, ("f", 0), A), (True, ("f", B), B))
        self.assertEqual([(row[0], row[1], row[2]) for row in factorings(ordering, 0, clause)],
                         [((1, 0), (0, 0), ((True, ("f", B), A), (False, B, A)))])

    def test_atoms_have_no_negative_literal(self):
        clause = (p(0, A), equal(1, 0), p(B, 1))
        self.assertEqual(factorings(ORDERING, 0, clause), [
            ((0, 0), (2, 0), (equal(A, B), p(B, A)), (equal(A, B), p(B, A)), {0: B, 1: A}),
            ((2, 0), (0, 0), (p(B, A), equal(A, B)), (p(B, A), equal(A, B)), {0: B, 1: A})])

    def test_the_negative_literal_stands_behind_the_others(self):
        clause = (p(2), equal(g(0, 1), 0), equal(B, g(2, A)), not_p(2))
        ordering = Ordering({"g": 9}, [])
        result = factor(ordering, 0, clause, (1, 0), (2, 1))
        self.assertEqual(result, (
            (p(0), equal(B, g(0, A)), not_p(0), unequal(0, B)), (p(0), equal(B, g(0, A)), not_p(0), unequal(0, B)),
            {1: A, 2: 0}))
        result = factor(ordering, 0, clause, (2, 1), (1, 0))
        self.assertEqual(result[1], (p(0), equal(g(0, A), 0), not_p(0), unequal(B, 0)))

    def test_each_side_of_each_literal(self):
        clause = (equal(g(0, 1), g(1, 0)), equal(g(2, 3), g(3, 2)))
        places = [(row[0], row[1]) for row in factorings(ORDERING, 0, clause)]
        self.assertEqual(places, [((i, one), (1 - i, two)) for i in (0, 1) for one in (0, 1) for two in (0, 1)])
        clause = (equal(A, f(0)), equal(B, f(1)))
        self.assertEqual([(row[0], row[1]) for row in factorings(ORDERING, 0, clause)], [((1, 1), (0, 1))])

    def test_a_literal_of_another_kind(self):
        clause = (equal(0, A), p(B), not_p(A), unequal(0, A))
        for selection in range(3):
            self.assertEqual(factorings(ORDERING, selection, clause), [])
            for first in [(index, side) for index in range(4) for side in (0, 1)]:
                for second in [(index, side) for index in range(4) for side in (0, 1)]:
                    self.assertIsNone(factor(ORDERING, selection, clause, first, second))

    def test_two_places_of_one_literal(self):
        clause = (equal(f(0), f(1)), p(0))
        for first in (0, 1):
            for second in (0, 1):
                self.assertIsNone(factor(ORDERING, 0, clause, (0, first), (0, second)))
        self.assertIsNone(factor(ORDERING, 0, clause, (1, 0), (1, 0)))

    def test_the_right_side_of_an_atom(self):
        clause = (p(0), p(A))
        for first, second in [((0, 1), (1, 1)), ((0, 0), (1, 1)), ((0, 1), (1, 0))]:
            self.assertIsNone(factor(ORDERING, 0, clause, first, second))
        self.assertIsNotNone(factor(ORDERING, 0, clause, (0, 0), (1, 0)))

    def test_true_and_true(self):
        self.assertEqual(factorings(ORDERING, 0, ((True, TRUE, TRUE), (True, TRUE, TRUE), p(A))), [])

    def test_places_that_do_not_exist(self):
        clause = (equal(f(0), A), equal(f(A), A))
        for place in [(2, 0), (-1, 0), (0, 2), (0, -1)]:
            self.assertIsNone(factor(ORDERING, 0, clause, place, (1, 0)))
            self.assertIsNone(factor(ORDERING, 0, clause, (1, 0), place))
        self.assertIsNone(factor(ORDERING, 0, (), (0, 0), (1, 0)))

    def test_sides_without_a_unifier(self):
        self.assertEqual(factorings(ORDERING, 0, (equal(f(0), A), equal(g(0, 1), B))), [])
        self.assertEqual(factorings(ORDERING, 0, (p(A), p(B))), [])
        self.assertEqual(factorings(ORDERING, 0, (p(0, f(0)), p(1, 1))), [])

    def test_the_other_side_of_the_first_literal(self):
        clause = (equal(f(0), g(0, 0)), equal(f(A), A))
        self.assertIsNone(factor(ORDERING, 0, clause, (0, 0), (1, 0)))
        clause = (equal(f(0), f(0)), equal(f(A), A))
        self.assertIsNone(factor(ORDERING, 0, clause, (0, 0), (1, 0)))
        clause = (equal(f(0), 1), equal(f(A), A))
        self.assertIsNotNone(factor(ORDERING, 0, clause, (0, 0), (1, 0)))
        # The unifier decides which side is greater.
        clause = (equal(g(0, 1), g(1, 0)), equal(g(A, B), C))
        self.assertIsNone(factor(ORDERING, 0, clause, (0, 0), (1, 0)))
        self.assertIsNone(factor(ORDERING, 0, clause, (0, 1), (1, 0)))
        clause = (equal(g(0, 1), g(1, 0)), equal(g(B, A), C))
        self.assertIsNotNone(factor(ORDERING, 0, clause, (0, 0), (1, 0)))

    def test_the_other_side_of_the_second_literal_does_not_count(self):
        clause = (equal(f(0), 1), equal(f(2), f(f(2))))
        self.assertEqual(factor(ORDERING, 0, clause, (0, 0), (1, 0))[1],
                         (equal(f(0), f(f(0))), unequal(1, f(f(0)))))
        clause = (equal(f(0), 1), equal(f(2), f(2)))
        self.assertEqual(factor(ORDERING, 0, clause, (0, 0), (1, 0))[1], (equal(f(0), f(0)), unequal(1, f(0))))

    def test_the_first_literal_is_eligible(self):
        clause = (p(0), p(f(1)), p(f(A)))
        self.assertIsNotNone(factor(ORDERING, 0, clause, (1, 0), (2, 0)))
        self.assertIsNotNone(factor(ORDERING, 0, clause, (2, 0), (1, 0)))
        # Maximal is enough, it need not be strictly maximal: here both literals become equal.
        self.assertIsNotNone(factor(ORDERING, 0, clause, (0, 0), (2, 0)))
        clause = (p(0), p(A), p(f(0)))
        self.assertIsNone(factor(ORDERING, 0, clause, (0, 0), (1, 0)))
        clause = (p(0), p(A), not_p(B))
        self.assertIsNone(factor(ORDERING, 0, clause, (0, 0), (1, 0)))
        clause = (p(0), p(B), not_p(A))
        self.assertIsNotNone(factor(ORDERING, 0, clause, (0, 0), (1, 0)))
        self.assertIsNone(factor(ORDERING, 1, clause, (0, 0), (1, 0)))
        self.assertIsNotNone(factor(ORDERING, 2, clause, (0, 0), (1, 0)))

    def test_the_second_literal_need_not_be_eligible(self):
        clause = (equal(f(B), B), equal(f(0), A))
        self.assertEqual([row[:2] for row in factorings(ORDERING, 0, clause)], [((0, 0), (1, 0))])

    def test_cleaning_and_normal_form(self):
        clause = (equal(f(5), 4), equal(f(3), 4), p(5), p(3))
        ordering = Ordering({"f": 9}, [])
        result = factor(ordering, 0, clause, (0, 0), (1, 0))
        self.assertEqual(result, ((equal(f(0), 1), p(0)), (equal(f(3), 4), p(3), p(3), unequal(4, 4)), {5: 3}))

    def test_random_clauses_by_the_definition(self):
        source = random.Random(70)
        counts = [0, 0, 0]
        for _ in range(1500):
            clause = random_clause(source)
            for selection in range(3):
                found = factorings(ORDERING, selection, clause)
                self.assertEqual(found, factorings_by_hand(selection, clause), clause)
                self.assertEqual([row[:2] for row in found], sorted(row[:2] for row in found))
                counts[selection] += len(found)
                for row in found:
                    self.assertEqual(factor(ORDERING, selection, clause, *row[:2]), row[2:])
        self.assertGreater(min(counts), 50)


class Meaning(unittest.TestCase):
    """Point 68."""

    def test_conclusions_hold(self):
        source = random.Random(68)
        found = 0
        for _ in range(2000):
            clause = random_clause(source)
            structure = random_structure(source)
            if clause_holds(structure, clause):
                selection = source.randrange(3)
                rows = [row[1:3] for row in resolutions(ORDERING, selection, clause)]
                rows += [row[2:4] for row in factorings(ORDERING, selection, clause)]
                for conclusion, raw in rows:
                    found += 1
                    self.assertTrue(clause_holds(structure, conclusion))
                    self.assertTrue(clause_holds(structure, raw))
        self.assertGreater(found, 100)


class Errors(unittest.TestCase):
    """Points 12 and 52: what resolution and factoring raise."""

    def test_what_is_no_selection(self):
        for selection in (True, False, None, 3, -1, "0"):
            for clause in [(), (p(0),), (unequal(0, A),), (equal(f(0), A), equal(f(1), A))]:
                for call in [lambda: resolutions(ORDERING, selection, clause),
                             lambda: factorings(ORDERING, selection, clause),
                             lambda: resolve(ORDERING, selection, clause, 0),
                             lambda: resolve(ORDERING, selection, clause, 9),
                             lambda: factor(ORDERING, selection, clause, (0, 0), (1, 0)),
                             lambda: factor(ORDERING, selection, clause, (0, 0), (0, 0))]:
                    with self.assertRaises(InvalidSelection) as caught:
                        call()
                    self.assertIs(caught.exception.selection, selection)

    def test_what_is_too_large(self):
        wide = ("w", *[0] * 50)
        for clause, call in [
                ((unequal(g(0, wide), g(("w", *[A] * 50), 1)),), resolutions),
                ((unequal(0, ("w", *[A] * 50)), p(wide)), resolutions),
                ((p(0, wide), p(("w", *[A] * 50), 1)), factorings),
                ((p(0), p(("w", *[A] * 50)), not_p(wide)), factorings)]:
            with self.assertRaises(TooLarge) as caught:
                call(Ordering({"q": 10 ** 6}, []), 1 if call == resolutions else 0, clause)
            self.assertEqual(caught.exception.limit, "term")


if __name__ == "__main__":
    unittest.main()
