"""Points 64 and 71 to 77: simplifying clauses."""

import random
import unittest

from elenchus.clauses import clause_variables, is_tautology, normal
from elenchus.ordering import compare_clauses
from elenchus.simplify import clean, cut_at, reduces, rewrite_at, simplify
from elenchus.structures import Structure, clause_holds
from elenchus.subsumption import subsumes
from elenchus.terms import positions, replace_at, subterm_at, variables
from elenchus.unify import apply, match, match_all
from elenchus.weights import Ordering

TRUE = ("true",)
A = ("a",)
B = ("b",)
C = ("c",)
ORDERING = Ordering({}, ["a", "b", "c", "f", "g"])


def f(term):
    return ("f", term)


def g(first, second):
    return ("g", first, second)


def p(*arguments, positive=True):
    return (positive, ("p", *arguments), TRUE)


def not_p(*arguments):
    return p(*arguments, positive=False)


def q(*arguments):
    return (True, ("q", *arguments), TRUE)


def equal(left, right):
    return (True, left, right)


def unequal(left, right):
    return (False, left, right)


def places(clause):
    """Return all places of a clause in the order of point 75."""
    return [(index, side, position) for index, literal in enumerate(clause) for side in (0, 1)
            for position in positions(literal[1 + side])]


def rewriting_by_hand(clause, rule, rule_side, index, side, position):
    """Return what rewrite_at returns, by the definition of point 72."""
    (positive, *ends), = rule
    old, new = ends[rule_side], ends[1 - rule_side]
    sign, *sides = clause[index]
    part = subterm_at(sides[side], position)
    if ends[1] == TRUE:
        if rule_side == 1 or sides[1] != TRUE or side == 1 or position != ():
            return None
    elif not isinstance(part, tuple) or (sides[1] == TRUE and (side == 1 or position == ())):
        return None
    bound = match(old, part)
    if bound is None or not set(variables(new)) <= set(variables(old)):
        return None
    if ORDERING.compare(apply(bound, old), apply(bound, new)) != "greater":
        return None
    if compare_clauses(ORDERING, ((True, apply(bound, old), apply(bound, new)),), clause) != "less":
        return None
    sides[side] = replace_at(sides[side], position, apply(bound, new))
    return clause[:index] + ((sign, *sides),) + clause[index + 1:], bound


def cut_by_hand(clause, cutter, index):
    """Return what cut_at returns, by the definition of point 74."""
    (_, left, right), = cutter
    positive, first, second = clause[index]
    if not positive or (right == TRUE) != (second == TRUE):
        return None
    for one, two in [(first, second), (second, first)][:1 if right == TRUE else 2]:
        bound = match_all([(left, one), (right, two)])
        if bound is not None:
            return clause[:index] + clause[index + 1:], bound
    return None


def step_by_hand(clause, units):
    """Return the next step of a simplification, by the definition of point 75, or None."""
    if any(not sign and left == right for sign, left, right in clause):
        return ("clean", tuple(literal for literal in clause if literal[0] or literal[1] != literal[2]))
    for place in places(clause):
        for number, unit in units:
            if unit[0][0]:
                for rule_side in (0, 1):
                    found = rewriting_by_hand(clause, unit, rule_side, *place)
                    if found is not None:
                        return ("rewrite", found[0], number, rule_side, *place, found[1])
    for index in range(len(clause)):
        for number, unit in units:
            found = None if unit[0][0] else cut_by_hand(clause, unit, index)
            if found is not None:
                return ("cut", found[0], number, index, found[1])
    return None


def random_term(source, depth):
    choice = source.randrange(7 if depth else 5)
    if choice < 2:
        return source.randrange(2)
    if choice < 5:
        return (A, B, C)[choice - 2]
    return f(random_term(source, depth - 1)) if choice == 5 else g(random_term(source, depth - 1), A)


def random_literal(source, depth=2):
    positive = source.random() < 0.6
    if source.random() < 0.35:
        return (positive, (source.choice("pq"), random_term(source, depth - 1)), TRUE)
    return (positive, random_term(source, depth), random_term(source, depth - 1))


def random_clause(source):
    return tuple(random_literal(source) for _ in range(source.randrange(1, 4)))


def random_units(source):
    return [(7 * index, (random_literal(source),)) for index in range(source.randrange(6))]


def random_structure(source):
    pairs = [(i, j) for i in range(2) for j in range(2)]
    return Structure(
        2, {**{name: {(): source.randrange(2)} for name in "abc"},
            "f": {(i,): source.randrange(2) for i in range(2)}, "g": {pair: source.randrange(2) for pair in pairs}},
        {name: {(i,): source.random() < 0.6 for i in range(2)} for name in "pq"})


class Cleaning(unittest.TestCase):
    """Point 71."""

    def test_trivial_literals(self):
        clause = (unequal(A, A), p(0), unequal(f(0), f(0)), unequal(A, B), equal(A, A), unequal(0, 1))
        self.assertEqual(clean(clause), (p(0), unequal(A, B), equal(A, A), unequal(0, 1)))

    def test_true_and_true(self):
        self.assertEqual(clean(((False, TRUE, TRUE), (True, TRUE, TRUE), not_p(A))), ((True, TRUE, TRUE), not_p(A)))

    def test_clauses_without_trivial_literals(self):
        for clause in [(), (p(3),), (equal(0, 0), not_p(0))]:
            self.assertEqual(clean(clause), clause)

    def test_trivial_literals_alone(self):
        self.assertEqual(clean((unequal(0, 0), unequal(A, A))), ())

    def test_the_clause_is_not_brought_into_normal_form(self):
        self.assertEqual(clean((p(4), unequal(1, 1), p(4))), (p(4), p(4)))


class Rewriting(unittest.TestCase):
    """Points 64, 72 and 73."""

    def assert_rewritten(self, clause, rule, rule_side, place, result, substitution):
        self.assertEqual(rewrite_at(ORDERING, clause, rule, rule_side, *place), (result, substitution))

    def assert_not(self, clause, rule, rule_side, place):
        self.assertIsNone(rewrite_at(ORDERING, clause, rule, rule_side, *place))

    def test_equations(self):
        clause = (p(A), unequal(B, g(f(3), f(B))))
        rule = (equal(f(0), 0),)
        self.assert_rewritten(clause, rule, 0, (1, 1, (1,)), (p(A), unequal(B, g(3, f(B)))), {0: 3})
        self.assert_rewritten(clause, rule, 0, (1, 1, (2,)), (p(A), unequal(B, g(f(3), B))), {0: B})

    def test_both_sides_of_a_rule(self):
        self.assert_rewritten((p(f(A)),), (equal(A, f(0)),), 1, (0, 0, (1,)), (p(A),), {0: A})
        self.assert_rewritten((p(C),), (equal(A, C),), 1, (0, 0, (1,)), (p(A),), {})
        clause = (p(g(A, B)),)
        rule = (equal(g(0, 1), g(1, 0)),)
        self.assert_not(clause, rule, 0, (0, 0, (1,)))
        self.assert_not(clause, rule, 1, (0, 0, (1,)))
        clause = (p(g(B, A)),)
        self.assert_rewritten(clause, rule, 0, (0, 0, (1,)), (p(g(A, B)),), {0: B, 1: A})
        self.assert_rewritten(clause, rule, 1, (0, 0, (1,)), (p(g(A, B)),), {0: A, 1: B})

    def test_the_rule_is_not_renamed(self):
        rule = (equal(g(0, 1), 1),)
        self.assert_rewritten((p(g(1, f(0)), 0),), rule, 0, (0, 0, (1,)), (p(f(0), 0),), {0: 1, 1: f(0)})
        self.assert_rewritten((p(g(1, 0)),), rule, 0, (0, 0, (1,)), (p(0),), {0: 1, 1: 0})
        self.assert_not((p(g(0, 1)),), (equal(g(0, 0), 0),), 0, (0, 0, (1,)))

    def test_variables_are_not_rewritten(self):
        rule = (equal(0, A),)
        self.assert_not((p(1, f(2)),), rule, 0, (0, 0, (1,)))
        self.assert_not((p(1, f(2)),), rule, 0, (0, 0, (2, 1)))
        self.assert_not((equal(f(1), 1), p(0)), rule, 0, (0, 1, ()))
        self.assert_rewritten((p(1, f(B)),), rule, 0, (0, 0, (2, 1)), (p(1, f(A)),), {0: B})

    def test_an_equation_does_not_rewrite_an_atom_itself(self):
        rule = (equal(0, A),)
        self.assert_not((p(B),), rule, 0, (0, 0, ()))
        self.assert_not((p(B),), rule, 0, (0, 1, ()))
        self.assert_not((not_p(f(B)), (True, TRUE, TRUE)), rule, 0, (1, 0, ()))
        self.assert_rewritten((p(B),), rule, 0, (0, 0, (1,)), (p(A),), {0: B})
        self.assert_rewritten((unequal(B, f(B)),), rule, 0, (0, 0, ()), (unequal(A, f(B)),), {0: B})

    def test_an_atom_becomes_true_and_true(self):
        self.assert_rewritten((q(B), p(f(A))), (p(0),), 0, (1, 0, ()), (q(B), (True, TRUE, TRUE)), {0: f(A)})
        self.assert_rewritten((not_p(f(3)),), (p(0),), 0, (0, 0, ()), ((False, TRUE, TRUE),), {0: f(3)})

    def test_an_atom_rewrites_an_atom_alone(self):
        clause = (not_p(f(A)), equal(f(A), A))
        for place in places(clause):
            if place != (0, 0, ()):
                self.assert_not(clause, (p(0),), 0, place)
        for place in places(clause):
            self.assert_not(clause, (p(0),), 1, place)
        self.assert_not((not_p(A),), (q(0),), 0, (0, 0, ()))

    def test_the_side_does_not_match(self):
        self.assert_not((p(f(B)),), (equal(f(A), A),), 0, (0, 0, (1,)))
        self.assert_not((p(f(0)),), (equal(f(A), A),), 0, (0, 0, (1,)))
        self.assert_not((p(g(A, B)),), (equal(g(0, 0), 0),), 0, (0, 0, (1,)))

    def test_every_variable_of_the_other_side_occurs(self):
        self.assert_not((p(f(f(A)), 0),), (equal(f(0), 1),), 0, (0, 0, (1,)))
        self.assert_not((p(g(A, A), 1),), (equal(g(0, A), 1),), 0, (0, 0, (1,)))

    def test_the_side_is_greater(self):
        self.assert_not((p(A),), (equal(A, B),), 0, (0, 0, (1,)))
        self.assert_not((p(f(A)),), (equal(f(0), f(0)),), 0, (0, 0, (1,)))
        self.assert_not((p(f(0)),), (equal(f(0), g(0, 0)),), 0, (0, 0, (1,)))
        self.assert_not((p(g(0, 1)),), (equal(g(0, 1), g(1, 0)),), 0, (0, 0, (1,)))
        self.assert_not((p(f(0)),), (equal(f(0), g(0, A)),), 0, (0, 0, (1,)))

    def test_the_rule_is_less_than_the_clause(self):
        rule = (equal(f(0), B),)
        # A unit does not rewrite a clause of its own literal, but it does rewrite greater ones.
        self.assert_not((equal(f(0), B),), rule, 0, (0, 0, ()))
        self.assert_not((equal(f(A), B),), rule, 0, (0, 0, ()))
        self.assert_not((equal(B, f(A)),), rule, 0, (0, 1, ()))
        self.assert_not((equal(f(A), A),), rule, 0, (0, 0, ()))
        self.assert_rewritten((equal(f(A), C),), rule, 0, (0, 0, ()), (equal(B, C),), {0: A})
        self.assert_rewritten((equal(f(A), B), p(A)), rule, 0, (0, 0, ()), (equal(B, B), p(A)), {0: A})
        self.assert_rewritten((unequal(f(A), B),), rule, 0, (0, 0, ()), (unequal(B, B),), {0: A})
        self.assert_rewritten((equal(f(f(A)), B),), rule, 0, (0, 0, (1,)), (equal(f(B), B),), {0: A})
        self.assert_not((equal(f(1), 2),), rule, 0, (0, 0, ()))
        self.assert_not((p(A),), (p(A),), 0, (0, 0, ()))
        self.assert_not((p(A),), (p(0),), 0, (0, 0, ()))
        self.assert_rewritten((p(A), p(A)), (p(0),), 0, (1, 0, ()), (p(A), (True, TRUE, TRUE)), {0: A})

    def test_what_is_no_rule(self):
        clause = (p(f(A)), p(f(B)))
        for rule in [(), (unequal(f(0), 0),), (equal(f(0), 0), p(0)), (not_p(0),)]:
            for place in places(clause):
                for side in (0, 1):
                    self.assert_not(clause, rule, side, place)

    def test_places_that_do_not_exist(self):
        clause = (p(f(A)),)
        rule = (equal(f(0), 0),)
        for place in [(1, 0, (1,)), (-1, 0, (1,)), (0, 2, (1,)), (0, -1, (1,)), (0, 0, (2,)), (0, 0, (1, 1, 1))]:
            self.assert_not(clause, rule, 0, place)
        for side in (2, -1):
            self.assert_not(clause, rule, side, (0, 0, (1,)))
        self.assert_not((), rule, 0, (0, 0, ()))

    def test_random_clauses_by_the_definition(self):
        source = random.Random(72)
        found = 0
        for _ in range(600):
            clause = random_clause(source)
            rule = (random_literal(source),)
            if not rule[0][0]:
                continue
            structure = random_structure(source)
            for place in places(clause):
                for side in (0, 1):
                    result = rewrite_at(ORDERING, clause, rule, side, *place)
                    self.assertEqual(result, rewriting_by_hand(clause, rule, side, *place))
                    if result is not None:
                        found += 1
                        self.assertEqual(compare_clauses(ORDERING, result[0], clause), "less")
                        self.assertEqual(sorted(result[1]), sorted(variables(rule[0][1 + side])))
                        if clause_holds(structure, rule):
                            self.assertEqual(clause_holds(structure, clause), clause_holds(structure, result[0]))
        self.assertGreater(found, 100)

    def test_the_substitution_is_new(self):
        result = rewrite_at(ORDERING, (p(f(A)),), (equal(f(0), 0),), 0, 0, 0, (1,))
        result[1].clear()
        self.assert_rewritten((p(f(A)),), (equal(f(0), 0),), 0, (0, 0, (1,)), (p(A),), {0: A})

    def test_a_result_that_is_large(self):
        wide = ("w", *[A] * 999)
        ordering = Ordering({"f": 10 ** 6}, [])
        result = rewrite_at(ordering, (p(g(f(A), wide)),), (equal(f(0), wide),), 0, 0, 0, (1, 1))
        self.assertEqual(result, ((p(g(wide, wide)),), {0: A}))


class Cutting(unittest.TestCase):
    """Points 64 and 74."""

    def test_equations_in_either_order(self):
        clause = (p(A), equal(f(A), B))
        self.assertEqual(cut_at(clause, (unequal(f(0), B),), 1), ((p(A),), {0: A}))
        self.assertEqual(cut_at(clause, (unequal(B, f(0)),), 1), ((p(A),), {0: A}))
        self.assertEqual(cut_at(clause, (unequal(0, 1),), 1), ((p(A),), {0: f(A), 1: B}))
        self.assertIsNone(cut_at(clause, (unequal(0, 0),), 1))
        self.assertIsNone(cut_at(clause, (unequal(f(B), 0),), 1))

    def test_the_order_as_written_where_both_fit(self):
        self.assertEqual(cut_at((equal(A, B),), (unequal(0, 1),), 0), ((), {0: A, 1: B}))
        self.assertEqual(cut_at((equal(f(A), f(B)),), (unequal(f(1), 0),), 0), ((), {1: A, 0: f(B)}))

    def test_atoms(self):
        clause = (p(A, 0), q(0))
        self.assertEqual(cut_at(clause, (not_p(0, 1),), 0), ((q(0),), {0: A, 1: 0}))
        self.assertIsNone(cut_at(clause, (not_p(0, 0),), 0))
        self.assertIsNone(cut_at(clause, (not_p(0, A),), 0))
        self.assertIsNone(cut_at(clause, (not_p(0, 1),), 1))

    def test_literals_of_another_kind(self):
        self.assertIsNone(cut_at((p(A),), (unequal(0, 1),), 0))
        self.assertIsNone(cut_at(((True, TRUE, TRUE),), (unequal(0, 1),), 0))
        self.assertIsNone(cut_at(((True, TRUE, TRUE),), (unequal(0, 0),), 0))
        self.assertIsNone(cut_at((equal(A, B),), (not_p(0),), 0))

    def test_the_sign_of_the_literal(self):
        self.assertIsNone(cut_at((unequal(A, B),), (unequal(0, 1),), 0))
        self.assertIsNone(cut_at((not_p(A),), (not_p(0),), 0))

    def test_variables_of_the_clause_are_not_replaced(self):
        self.assertIsNone(cut_at((p(0),), (not_p(A),), 0))
        self.assertIsNone(cut_at((equal(0, 1),), (unequal(0, 0),), 0))
        self.assertEqual(cut_at((equal(0, 0),), (unequal(3, 3),), 0), ((), {3: 0}))
        self.assertEqual(cut_at((p(1, 0),), (not_p(0, 1),), 0), ((), {0: 1, 1: 0}))

    def test_what_is_no_cutter(self):
        for cutter in [(), (p(0),), (not_p(0), not_p(1)), (equal(0, 1),)]:
            self.assertIsNone(cut_at((p(A), equal(A, B)), cutter, 0))
            self.assertIsNone(cut_at((p(A), equal(A, B)), cutter, 1))

    def test_indexes_that_do_not_exist(self):
        for index in (-1, 1):
            self.assertIsNone(cut_at((p(A),), (not_p(0),), index))
        self.assertIsNone(cut_at((), (not_p(0),), 0))

    def test_what_holds(self):
        source = random.Random(74)
        found = 0
        for _ in range(2000):
            clause = random_clause(source)
            cutter = (random_literal(source, 1),)
            if cutter[0][0]:
                continue
            structure = random_structure(source)
            for index in range(len(clause)):
                result = cut_at(clause, cutter, index)
                self.assertEqual(result, cut_by_hand(clause, cutter, index))
                if result is not None:
                    found += 1
                    self.assertEqual(sorted(result[1]), sorted(clause_variables(cutter)))
                    if clause_holds(structure, cutter):
                        self.assertEqual(clause_holds(structure, clause), clause_holds(structure, result[0]))
        self.assertGreater(found, 50)


class Simplifying(unittest.TestCase):
    """Points 75 and 76."""

    def test_the_example(self):
        ordering = Ordering({}, ["a", "b", "f"])
        units = [(4, ((True, f(0), 0),)), (7, ((False, 0, B),))]
        clause = ((True, f(A), B), (False, f(A), f(f(A))))
        result, steps = simplify(ordering, clause, units)
        self.assertEqual(result, ())
        self.assertEqual(steps, [
            ("rewrite", (equal(A, B), unequal(f(A), f(f(A)))), 4, 0, 0, 0, (), {0: A}),
            ("rewrite", (equal(A, B), unequal(A, f(f(A)))), 4, 0, 1, 0, (), {0: A}),
            ("rewrite", (equal(A, B), unequal(A, f(A))), 4, 0, 1, 1, (), {0: f(A)}),
            ("rewrite", (equal(A, B), unequal(A, A)), 4, 0, 1, 1, (), {0: A}),
            ("clean", (equal(A, B),)),
            ("cut", (), 7, 0, {0: A})])

    def test_nothing_applies(self):
        for clause in [(), (p(0), equal(A, B)), ((True, TRUE, TRUE),)]:
            self.assertEqual(simplify(ORDERING, clause, []), (clause, []))
            self.assertEqual(simplify(ORDERING, clause, [(3, (equal(f(0), 0),)), (5, (not_p(A),))]), (clause, []))

    def test_cleaning_comes_first(self):
        clause = (unequal(f(A), f(A)), p(f(A)), unequal(0, 0))
        self.assertEqual(simplify(ORDERING, clause, [(2, (equal(f(0), 0),)), (3, (not_p(0),))]), ((), [
            ("clean", (p(f(A)),)), ("rewrite", (p(A),), 2, 0, 0, 0, (1,), {0: A}), ("cut", (), 3, 0, {0: A})]))

    def test_rewriting_comes_before_cutting(self):
        clause = (p(A), q(f(B)))
        self.assertEqual(simplify(ORDERING, clause, [(0, (not_p(0),)), (1, (equal(f(0), 0),))])[1], [
            ("rewrite", (p(A), q(B)), 1, 0, 1, 0, (1,), {0: B}), ("cut", (q(B),), 0, 0, {0: A})])

    def test_each_step_begins_anew(self):
        # Cutting p makes room for nothing, but rewriting makes a trivial literal, and that comes first.
        clause = (unequal(f(A), A), q(f(A)), p(A))
        units = [(0, (not_p(0),)), (1, (equal(f(0), 0),))]
        self.assertEqual([step[0] for step in simplify(ORDERING, clause, units)[1]],
                         ["rewrite", "clean", "rewrite", "cut"])
        # A negative atom becomes trivial, and is cleaned, before the next one is rewritten.
        clause = (not_p(A), not_p(B))
        self.assertEqual(simplify(ORDERING, clause, [(9, (p(0),))]), ((), [
            ("rewrite", ((False, TRUE, TRUE), not_p(B)), 9, 0, 0, 0, (), {0: A}),
            ("clean", (not_p(B),)),
            ("rewrite", ((False, TRUE, TRUE),), 9, 0, 0, 0, (), {0: B}),
            ("clean", ())]))

    def first_step(self, clause, *units):
        return simplify(ORDERING, clause, list(enumerate(units)))[1][0]

    def test_the_order_of_the_rewritings(self):
        by_f = (equal(f(0), 0),)
        by_g = (equal(g(0, 1), 1),)
        # The lowest index of a literal.
        self.assertEqual(self.first_step((p(f(A)), p(g(A, B))), by_g, by_f)[2:7], (1, 0, 0, 0, (1,)))
        # Side 0 before side 1.
        self.assertEqual(self.first_step((unequal(f(A), g(A, B)),), by_g, by_f)[2:7], (1, 0, 0, 0, ()))
        self.assertEqual(self.first_step((unequal(g(A, B), f(A)),), by_f, by_g)[2:7], (1, 0, 0, 0, ()))
        # Positions in preorder.
        self.assertEqual(self.first_step((p(g(f(A), B), f(C)),), by_f, by_g)[2:7], (1, 0, 0, 0, (1,)))
        self.assertEqual(self.first_step((p(("h", A, f(C)), f(A)),), by_g, by_f)[2:7], (1, 0, 0, 0, (1, 2)))
        # The rule that comes first in the list.
        self.assertEqual(self.first_step((p(f(A)),), (equal(f(A), A),), by_f)[2:7], (0, 0, 0, 0, (1,)))
        self.assertEqual(self.first_step((p(f(A)),), by_f, (equal(f(A), A),))[2:7], (0, 0, 0, 0, (1,)))
        self.assertEqual(self.first_step((p(f(A)),), (equal(0, A),), by_f)[2:7], (0, 0, 0, 0, (1,)))
        self.assertEqual(self.first_step((p(f(A)),), (equal(0, f(0)),), (equal(0, A),))[2:4], (0, 1))
        # Of one rule side 0 first.
        both = (equal(g(0, 1), g(1, 0)),)
        self.assertEqual(self.first_step((p(g(B, A)),), both)[3:], (0, 0, 0, (1,), {0: B, 1: A}))
        # An atom as a whole comes before its arguments, whatever the order of the rules is.
        self.assertEqual(self.first_step((p(f(A)), q(A)), by_f, (p(0),))[2:7], (1, 0, 0, 0, ()))

    def test_the_order_of_the_cuts(self):
        self.assertEqual(self.first_step((p(A), q(A)), ((False, ("q", 0), TRUE),), (not_p(0),)),
                         ("cut", (q(A),), 1, 0, {0: A}))
        self.assertEqual(self.first_step((q(A), p(A)), (not_p(A),), (not_p(0),)), ("cut", (q(A),), 0, 1, {}))
        self.assertEqual(self.first_step((q(A), p(A)), (not_p(0),), (not_p(A),)), ("cut", (q(A),), 0, 1, {0: A}))

    def test_the_numbers_are_those_of_the_units(self):
        units = [(30, (not_p(A),)), (20, (equal(f(0), 0),)), (10, (equal(g(0, 0), 0),)), (5, (p(0),))]
        steps = simplify(ORDERING, (p(g(f(A), A)), q(A)), units[:3])[1]
        self.assertEqual([step[2] for step in steps], [20, 10, 30])

    def test_the_clause_after_a_step_is_not_in_normal_form(self):
        clause = (p(5, f(3)), p(5, 3), unequal(7, 7))
        self.assertEqual(simplify(ORDERING, clause, [(0, (equal(f(0), 0),))]), ((p(5, 3), p(5, 3)), [
            ("clean", (p(5, f(3)), p(5, 3))), ("rewrite", (p(5, 3), p(5, 3)), 0, 0, 0, 0, (2,), {0: 3})]))

    def test_a_unit_does_not_simplify_a_clause_of_its_own_literal(self):
        for literal in [equal(f(0), A), p(f(0))]:
            self.assertEqual(simplify(ORDERING, (literal,), [(0, (literal,))]), ((literal,), []))

    def test_the_units_are_not_modified(self):
        units = [(1, (equal(f(0), 0),)), (0, (not_p(0),))]
        _, steps = simplify(ORDERING, (p(f(A)),), units)
        steps[0][7].clear()
        self.assertEqual(units, [(1, (equal(f(0), 0),)), (0, (not_p(0),))])
        self.assertEqual(simplify(ORDERING, (p(f(A)),), units)[1][0][7], {0: A})

    def test_random_clauses_by_the_definition(self):
        source = random.Random(75)
        counts = {"clean": 0, "rewrite": 0, "cut": 0}
        for _ in range(800):
            clause = random_clause(source)
            units = random_units(source)
            expected = []
            left = clause
            step = step_by_hand(left, units)
            while step is not None:
                expected.append(step)
                left = step[1]
                step = step_by_hand(left, units)
            self.assertEqual(simplify(ORDERING, clause, units), (left, expected))
            structure = random_structure(source)
            before = clause
            for step in expected:
                counts[step[0]] += 1
                self.assertEqual(compare_clauses(ORDERING, step[1], before), "less")
                before = step[1]
            if all(clause_holds(structure, unit) for _, unit in units):
                self.assertEqual(clause_holds(structure, clause), clause_holds(structure, left))
        self.assertGreater(min(counts.values()), 50)

    def test_many_units(self):
        units = [(number, (equal(("h", (f"c{number}",)), (f"d{number}",)),)) for number in range(300)]
        clause = tuple(p(("h", (f"c{number}",))) for number in range(0, 300, 30))
        result, steps = simplify(Ordering({"h": 2}, []), clause, units)
        self.assertEqual(result, tuple(p((f"d{number}",)) for number in range(0, 300, 30)))
        self.assertEqual([step[2] for step in steps], list(range(0, 300, 30)))


class Reducing(unittest.TestCase):
    """Point 77."""

    def assert_reduces(self, clause, clauses, expected):
        self.assertIs(reduces(ORDERING, clause, clauses), expected)

    def test_the_example(self):
        ordering = Ordering({}, ["a", "b", "f"])
        self.assertIs(reduces(ordering, ((True, f(f(3)), 3),), [((True, f(0), 0),)]), True)

    def test_at_the_start(self):
        self.assert_reduces((p(0), not_p(0)), [], True)
        self.assert_reduces((p(A), q(A)), [(q(0),)], True)
        self.assert_reduces((p(A), q(A)), [(q(0), p(0))], True)
        self.assert_reduces((p(A), q(A)), [(q(B),), (q(0), p(B))], False)
        self.assert_reduces((p(A),), [], False)

    def test_at_the_end(self):
        clauses = [(equal(f(0), 0),), (q(0), p(0))]
        self.assert_reduces((p(A), q(f(A))), clauses, True)
        self.assert_reduces((p(A), q(f(B))), clauses, False)
        self.assert_reduces((p(f(A)), unequal(A, f(A)), not_p(A)), clauses, True)
        self.assert_reduces((p(f(A)), q(C)), clauses[:1], False)

    def test_a_clause_that_becomes_a_tautology_only_after_a_step(self):
        clauses = [(equal(f(0), 0),), (unequal(A, A),)]
        units = list(enumerate(clauses))
        clause = (equal(f(A), A), p(B))
        result, steps = simplify(ORDERING, clause, units)
        self.assertEqual([is_tautology(step[1]) for step in steps], [True, False])
        self.assertEqual(result, (p(B),))
        self.assert_reduces(clause, clauses, True)

    def test_a_clause_that_is_subsumed_only_after_a_step(self):
        rules = [(equal(f(f(0)), g(0, 0)),), (equal(g(0, 1), 0),)]
        ordering = Ordering({"f": 9}, [])
        clause = (p(f(f(A))), q(A))
        wanted = (p(g(0, 0)), q(0))
        result, steps = simplify(ordering, clause, list(enumerate(rules)))
        self.assertEqual([subsumes(wanted, one) for one in [clause] + [step[1] for step in steps]],
                         [False, True, False])
        self.assertEqual(result, (p(A), q(A)))
        self.assertIs(reduces(ordering, clause, rules + [wanted]), True)
        self.assertIs(reduces(ordering, clause, [wanted] + rules), True)
        self.assertIs(reduces(ordering, clause, rules), False)
        self.assertIs(reduces(ordering, clause, rules + [(p(g(0, 0)), q(B))]), False)

    def test_the_clause_after_a_step_counts_as_it_is(self):
        # In its normal form the clause after the step has one literal, and would not be subsumed.
        clauses = [(equal(f(0), 0),), (p(0), p(1))]
        clause = (p(A), p(f(A)))
        self.assert_reduces(clause, clauses, True)
        self.assert_reduces(normal((p(A), p(A))), clauses, False)

    def test_the_order_of_the_list(self):
        # Each rule alone would reduce the clause in another way; the first one in the list is taken.
        first, second = (equal(f(A), B),), (equal(f(0), 0),)
        clause = (q(f(A)), p(f(A)))
        self.assert_reduces(clause, [first, second, (q(B), p(B))], True)
        self.assert_reduces(clause, [second, first, (q(B), p(B))], False)
        self.assert_reduces(clause, [second, first, (q(A), p(A))], True)

    def test_every_clause_of_the_list(self):
        source = random.Random(77)
        for _ in range(150):
            clauses = [random_clause(source) for _ in range(5)]
            for clause in clauses:
                self.assert_reduces(clause, clauses, True)
                self.assert_reduces(normal(clause), clauses + [normal(clause)], True)
        for unit in [(equal(f(0), 0),), (unequal(A, B),), (p(0),), (not_p(f(0)),), ((False, TRUE, TRUE),)]:
            self.assert_reduces(unit, [unit], True)

    def test_the_empty_clause(self):
        self.assert_reduces((), [], False)
        self.assert_reduces((), [(p(0),), (not_p(0),)], False)
        self.assert_reduces((), [(p(0),), ()], True)
        self.assert_reduces((p(0),), [()], True)
        # What is left of this clause is empty, and nothing subsumes that.
        self.assert_reduces((unequal(f(A), A),), [(equal(f(0), 0),)], False)

    def test_clauses_of_several_literals_are_no_units(self):
        self.assert_reduces((p(f(A)),), [(equal(f(0), 0), q(0)), (p(A),)], False)
        self.assert_reduces((p(f(A)),), [(equal(f(0), 0),), (p(A),)], True)

    def test_random_clauses_by_the_definition(self):
        source = random.Random(78)
        counts = {True: 0, False: 0}
        for _ in range(600):
            clause = random_clause(source)
            clauses = [random_clause(source) for _ in range(2)] + [unit for _, unit in random_units(source)]
            source.shuffle(clauses)
            units = [(index, unit) for index, unit in enumerate(clauses) if len(unit) == 1]
            steps = simplify(ORDERING, clause, units)[1]
            expected = any(is_tautology(one) or any(subsumes(other, one) for other in clauses)
                           for one in [clause] + [step[1] for step in steps])
            counts[expected] += 1
            self.assert_reduces(clause, clauses, expected)
        self.assertGreater(min(counts.values()), 100)


if __name__ == "__main__":
    unittest.main()
