"""Points 54 to 57: clauses, their normal form and their variables."""

import random
import unittest

from elenchus.clauses import (
    alike, clause_variables, clause_weight, is_tautology, literal_weight, normal, opposite, rename_apart, shift_clause)
from elenchus.structures import Structure, clause_holds

TRUE = ("true",)
A = ("a",)
B = ("b",)


def p(*arguments, positive=True):
    return (positive, ("p", *arguments), TRUE)


def negated(literal):
    return (not literal[0],) + literal[1:]


def random_term(source, depth):
    choice = source.randrange(4) if depth else source.randrange(2)
    if choice == 0:
        return source.randrange(3)
    return A if choice == 1 else ("f", random_term(source, depth - 1))


def random_clause(source, length):
    literals = []
    for _ in range(length):
        positive = source.random() < 0.5
        left = random_term(source, 2)
        literals.append(p(left, positive=positive) if source.random() < 0.4
                        else (positive, left, random_term(source, 2)))
    return tuple(literals)


class AlikeAndOpposite(unittest.TestCase):
    """Point 54."""

    def test_the_same_literal(self):
        for literal in [(True, A, B), (False, 0, A), p(0), p(0, positive=False), (True, TRUE, TRUE)]:
            self.assertIs(alike(literal, literal), True)
            self.assertIs(opposite(literal, literal), False)

    def test_equations_with_exchanged_sides(self):
        self.assertIs(alike((True, A, ("f", 0)), (True, ("f", 0), A)), True)
        self.assertIs(alike((False, 0, 1), (False, 1, 0)), True)
        self.assertIs(alike((True, 0, 1), (True, 1, 2)), False)

    def test_the_sides_of_an_atom_are_not_exchanged(self):
        self.assertIs(alike(p(0), (True, TRUE, ("p", 0))), False)
        self.assertIs(alike((True, TRUE, ("p", 0)), p(0)), False)
        self.assertIs(opposite(p(0), (False, TRUE, ("p", 0))), False)

    def test_the_sign_counts(self):
        self.assertIs(alike((True, A, B), (False, A, B)), False)
        self.assertIs(alike((True, A, B), (False, B, A)), False)
        self.assertIs(alike(p(0), p(0, positive=False)), False)

    def test_the_variables_count(self):
        self.assertIs(alike(p(0), p(1)), False)
        self.assertIs(alike((True, 0, A), (True, 1, A)), False)

    def test_opposite_literals(self):
        self.assertIs(opposite((True, A, B), (False, A, B)), True)
        self.assertIs(opposite((False, A, B), (True, B, A)), True)
        self.assertIs(opposite(p(0), p(0, positive=False)), True)
        self.assertIs(opposite((False, TRUE, TRUE), (True, TRUE, TRUE)), True)
        self.assertIs(opposite(p(0), p(1, positive=False)), False)
        self.assertIs(opposite((True, A, B), (True, B, A)), False)


class Tautologies(unittest.TestCase):
    """Point 55."""

    def test_equations_of_two_equal_terms(self):
        self.assertIs(is_tautology(((True, ("f", 0), ("f", 0)),)), True)
        self.assertIs(is_tautology((p(A), (True, 0, 0))), True)
        self.assertIs(is_tautology(((False, ("f", 0), ("f", 0)),)), False)
        self.assertIs(is_tautology(((True, 0, 1),)), False)

    def test_true_and_true(self):
        self.assertIs(is_tautology(((True, TRUE, TRUE),)), True)
        self.assertIs(is_tautology(((False, TRUE, TRUE),)), False)

    def test_opposite_literals(self):
        self.assertIs(is_tautology((p(0), p(1), p(0, positive=False))), True)
        self.assertIs(is_tautology(((False, A, 0), p(1), (True, 0, A))), True)
        self.assertIs(is_tautology(((True, A, 0), (True, 0, A))), False)
        self.assertIs(is_tautology((p(0), p(1, positive=False))), False)

    def test_the_empty_clause(self):
        self.assertIs(is_tautology(()), False)

    def test_a_tautology_holds_in_every_structure(self):
        source = random.Random(5)
        found = 0
        for _ in range(300):
            clause = random_clause(source, 3)
            if is_tautology(clause):
                found += 1
                for value in range(8):
                    self.assertTrue(clause_holds(structure_number(value), clause), clause)
        self.assertGreater(found, 20)


def structure_number(value):
    """Return one of eight structures of size 2."""
    return Structure(2, {"f": {(0,): value % 2, (1,): value // 2 % 2}}, {"p": {(0,): value >= 4}})


class NormalForm(unittest.TestCase):
    """Point 56."""

    def test_the_example(self):
        clause = ((True, ("f", 7), 4), (False, 4, 4), (True, 4, ("f", 7)))
        self.assertEqual(normal(clause), ((True, ("f", 0), 1), (False, 1, 1)))

    def test_of_several_alike_literals_the_first_is_kept(self):
        clause = ((True, A, 5), p(5), (True, 5, A), p(5), p(A), (True, A, 5))
        self.assertEqual(normal(clause), ((True, A, 0), p(0), p(A)))
        self.assertEqual(normal((p(A), p(A, positive=False), p(A))), (p(A), p(A, positive=False)))

    def test_variables_are_numbered_after_that(self):
        clause = ((True, A, A), (True, 9, 3), (True, 3, 9), p(("g", 7, 3)))
        self.assertEqual(normal(clause), ((True, A, A), (True, 0, 1), p(("g", 2, 1))))

    def test_literals_that_become_equal_by_a_renaming_stay(self):
        self.assertEqual(normal((p(4), p(7))), (p(0), p(1)))

    def test_the_order_of_the_literals_and_sides_stays(self):
        clause = (p(1), (False, B, ("f", 0)), (True, 2, A))
        self.assertEqual(normal(clause), (p(0), (False, B, ("f", 1)), (True, 2, A)))

    def test_all_variables_are_renamed_at_once(self):
        self.assertEqual(normal((p(1, 0),)), (p(0, 1),))

    def test_the_empty_clause(self):
        self.assertEqual(normal(()), ())

    def test_normal_of_a_normal_form(self):
        source = random.Random(1)
        for _ in range(200):
            clause = normal(random_clause(source, source.randrange(5)))
            self.assertEqual(normal(clause), clause)
            self.assertEqual(clause_variables(clause), list(range(len(clause_variables(clause)))))

    def test_it_holds_in_the_same_structures(self):
        source = random.Random(2)
        for _ in range(60):
            clause = random_clause(source, source.randrange(1, 5))
            for value in range(8):
                structure = structure_number(value)
                self.assertEqual(clause_holds(structure, normal(clause)), clause_holds(structure, clause))

    def test_sizes_beyond_the_limits_of_unification(self):
        big = ("w", *[3] * 1500)
        self.assertEqual(normal((p(big),)), (p(("w", *[0] * 1500)),))


class Weights(unittest.TestCase):
    """Point 57."""

    def test_atoms(self):
        self.assertEqual(literal_weight(p(0, ("f", A))), 4)
        self.assertEqual(literal_weight(p(positive=False)), 1)

    def test_equations(self):
        self.assertEqual(literal_weight((True, ("f", 0), A)), 3)
        self.assertEqual(literal_weight((False, 0, 0)), 2)

    def test_true_and_true(self):
        self.assertEqual(literal_weight((True, TRUE, TRUE)), 1)
        self.assertEqual(literal_weight((False, TRUE, TRUE)), 1)

    def test_clauses(self):
        self.assertEqual(clause_weight(()), 0)
        self.assertEqual(clause_weight((p(A), p(A), (True, 0, ("f", 0)))), 7)


class Variables(unittest.TestCase):
    """Point 56 and the interface: the variables of clauses."""

    def test_the_order_of_the_first_occurrence(self):
        self.assertEqual(clause_variables(((True, ("f", 5), 2), p(9, 5, 1), (False, 0, 2))), [5, 2, 9, 1, 0])
        self.assertEqual(clause_variables((p(A),)), [])
        self.assertEqual(clause_variables(()), [])

    def test_shift_clause(self):
        clause = ((True, ("f", 5), 0), p(A))
        self.assertEqual(shift_clause(clause, 3), ((True, ("f", 8), 3), p(A)))
        self.assertEqual(shift_clause(clause, 0), clause)
        self.assertEqual(shift_clause((), 4), ())

    def test_rename_apart(self):
        second = (p(0, 3), (True, 3, A))
        self.assertEqual(rename_apart((p(2), (True, 6, 1)), second), (p(7, 10), (True, 10, A)))
        self.assertEqual(rename_apart((p(0),), second), (p(1, 4), (True, 4, A)))
        self.assertEqual(rename_apart((p(A),), second), second)
        self.assertEqual(rename_apart((), second), second)
        self.assertEqual(rename_apart((p(2),), ()), ())


if __name__ == "__main__":
    unittest.main()
