"""Points 52 and 53: selected and eligible literals."""

import unittest

from elenchus.errors import InvalidSelection
from elenchus.selection import eligible, selected
from elenchus.weights import Ordering

TRUE = ("true",)
A = ("a",)
B = ("b",)
ORDERING = Ordering({}, ["a", "b", "f"])
NOT_SELECTIONS = (True, False, None, 3, -1, "1", 1.0, (1,), [])


def f(term):
    return ("f", term)


def p(*arguments, positive=True):
    return (positive, ("p", *arguments), TRUE)


def not_p(*arguments):
    return p(*arguments, positive=False)


class Selecting(unittest.TestCase):
    """Point 52."""

    def choices(self, clause, ordering=ORDERING):
        """Return what the three selections select."""
        return [selected(ordering, clause, selection) for selection in range(3)]

    def test_the_example(self):
        ordering = Ordering({}, ["a", "f"])
        clause = ((True, f(0), A), (False, 1, A), (False, f(0), 0))
        self.assertEqual(self.choices(clause, ordering), [None, 2, 1])

    def test_no_negative_literal(self):
        self.assertEqual(self.choices((p(0), (True, A, B))), [None, None, None])
        self.assertEqual(self.choices(()), [None, None, None])

    def test_one_negative_literal(self):
        self.assertEqual(self.choices((not_p(0),)), [None, 0, 0])
        self.assertEqual(self.choices((p(f(0)), not_p(0))), [None, 1, None])
        self.assertEqual(self.choices((p(0), not_p(0))), [None, 1, 1])
        self.assertEqual(self.choices(((False, TRUE, TRUE),)), [None, 0, 0])

    def test_several_of_one_weight(self):
        clause = (p(0), not_p(A), (False, f(1), A), not_p(f(2)), (False, f(A), B))
        self.assertEqual(self.choices(clause)[1], 3)
        self.assertEqual(self.choices((p(0), (False, f(1), A), not_p(2), (False, B, f(A))))[1], 1)
        self.assertEqual(self.choices((not_p(2), (False, f(1), A)))[1], 0)

    def test_both_sides_count(self):
        self.assertEqual(self.choices(((False, f(f(0)), A), (False, f(0), f(f(1)))))[1], 1)
        self.assertEqual(self.choices((not_p(0), (False, f(0), 0)))[1], 0)

    def test_weights_of_symbols(self):
        ordering = Ordering({"b": 5}, ["a", "b", "f"])
        clause = ((False, f(f(A)), A), (False, A, B))
        self.assertEqual(self.choices(clause, ordering), [None, 1, 1])
        self.assertEqual(self.choices(clause), [None, 0, 0])

    def test_maximal_negative_literals(self):
        clause = (not_p(A), not_p(0), not_p(1), p(0))
        self.assertEqual(self.choices(clause)[2], 0)
        clause = (not_p(A), not_p(B), (False, A, 0), p(B))
        self.assertEqual(self.choices(clause)[2], 1)
        # A literal that is equal to another one in the ordering is still maximal.
        self.assertEqual(self.choices(((False, A, A), (False, A, B), (False, B, A)))[2], 1)

    def test_negative_literals_that_are_not_maximal(self):
        self.assertEqual(self.choices((p(f(0)), not_p(0), (False, 0, A)))[2], None)


class Eligible(unittest.TestCase):
    """Point 53."""

    def places(self, clause, substitution, selection, *, strictly=False):
        """Return the indexes of the eligible literals; only positive ones are asked for strictly."""
        return [index for index, literal in enumerate(clause)
                if eligible(ORDERING, clause, index, substitution, selection, strictly=strictly and literal[0])]

    def test_the_example(self):
        ordering = Ordering({}, ["a", "f"])
        clause = ((True, f(0), A), (False, 1, A), (False, f(0), 0))
        self.assertIs(eligible(ordering, clause, 0, {}, 1), False)

    def test_a_selected_literal(self):
        clause = (p(f(0)), not_p(0), not_p(1), (True, 0, 1))
        self.assertEqual(self.places(clause, {}, 1), [1])
        self.assertEqual(self.places(clause, {}, 1, strictly=True), [1])
        self.assertEqual(self.places(clause, {}, 2), [2])
        # It stays eligible where it is not maximal after the substitution.
        self.assertEqual(self.places(clause, {0: A, 1: A}, 2), [2])
        self.assertEqual(self.places(clause, {0: A, 1: A}, 1), [1])

    def test_no_selected_literal(self):
        clause = (p(f(0)), not_p(0), not_p(1))
        self.assertEqual(self.places(clause, {}, 0), [0, 2])
        self.assertEqual(self.places(clause, {1: 0}, 0), [0])
        self.assertEqual(self.places(clause, {1: f(f(0))}, 0), [2])
        self.assertEqual(self.places((p(f(0)), not_p(0)), {}, 2), [0])

    def test_positive_clauses(self):
        clause = (p(0), p(1), p(A))
        for selection in range(3):
            self.assertEqual(self.places(clause, {}, selection), [0, 1, 2])
            self.assertEqual(self.places(clause, {0: A}, selection), [0, 1, 2])
            self.assertEqual(self.places(clause, {0: A}, selection, strictly=True), [1])
            self.assertEqual(self.places(clause, {0: B, 1: B}, selection), [0, 1])
            self.assertEqual(self.places(clause, {0: B, 1: B}, selection, strictly=True), [])
            self.assertIs(eligible(ORDERING, clause, 0, {0: B, 1: B}, selection), True)
            self.assertIs(eligible(ORDERING, clause, 2, {0: B, 1: B}, selection), False)
            self.assertEqual(self.places(clause, {0: f(A), 1: B}, selection, strictly=True), [0])

    def test_selection_looks_at_the_clause_before_the_substitution(self):
        # Before the substitution the second literal is heavier, after it the first one.
        clause = (not_p(0), not_p(f(1)))
        self.assertEqual(self.places(clause, {0: f(f(A))}, 1), [1])
        # Before the substitution no negative literal is maximal, so none is selected.
        clause = (p(f(0)), p(1), not_p(0))
        self.assertEqual(selected(ORDERING, clause, 2), None)
        self.assertEqual(self.places(clause, {1: f(f(0))}, 2), [1])

    def test_maximality_looks_at_the_clause_after_the_substitution(self):
        clause = ((True, 0, A), (True, 1, A), (True, f(1), A))
        self.assertEqual(self.places(clause, {}, 0), [0, 2])
        self.assertEqual(self.places(clause, {0: f(1)}, 0), [0, 2])
        self.assertEqual(self.places(clause, {0: f(1)}, 0, strictly=True), [])
        self.assertEqual(self.places(clause, {0: f(f(1))}, 0, strictly=True), [0])

    def test_the_arguments_are_not_modified(self):
        substitution = {0: A}
        eligible(ORDERING, (p(0), p(1)), 0, substitution, 0)
        self.assertEqual(substitution, {0: A})


class Selections(unittest.TestCase):
    """Points 52 and 53: what is no selection."""

    def test_selected(self):
        for selection in NOT_SELECTIONS:
            for clause in [(), (p(0),), (not_p(0), not_p(1)), ((True, A, B), (False, A, B))]:
                with self.assertRaises(InvalidSelection) as caught:
                    selected(ORDERING, clause, selection)
                self.assertIs(caught.exception.selection, selection)

    def test_eligible(self):
        for selection in NOT_SELECTIONS:
            for clause, index in [((), 0), ((p(0),), 0), ((p(0), not_p(1)), 0), ((p(0), not_p(1)), 1)]:
                for strictly in (True, False):
                    with self.assertRaises(InvalidSelection) as caught:
                        eligible(ORDERING, clause, index, {}, selection, strictly=strictly)
                    self.assertIs(caught.exception.selection, selection)


if __name__ == "__main__":
    unittest.main()
