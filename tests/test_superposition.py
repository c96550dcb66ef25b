"""Points 64 to 68: superposition."""

import random
import unittest

from elenchus.clauses import normal, rename_apart
from elenchus.errors import InvalidSelection, TooLarge
from elenchus.ordering import is_maximal
from elenchus.selection import selected
from elenchus.simplify import clean
from elenchus.structures import Structure, clause_holds
from elenchus.superposition import superpose, superpositions
from elenchus.terms import positions, replace_at, subterm_at
from elenchus.unify import apply, unify
from elenchus.weights import Ordering

TRUE = ("true",)
A = ("a",)
B = ("b",)
C = ("c",)
ORDERING = Ordering({}, ["a", "b", "c", "f", "g"])


def f(term):
    return ("f", term)


def g(first, second):
    return ("g", first, second)


def p(*arguments, positive=True):
    return (positive, ("p", *arguments), TRUE)


def not_p(*arguments):
    return p(*arguments, positive=False)


def q(*arguments):
    return (True, ("q", *arguments), TRUE)


def not_q(*arguments):
    return (False, ("q", *arguments), TRUE)


def equal(left, right):
    return (True, left, right)


def unequal(left, right):
    return (False, left, right)


def targets(clause):
    """Return all places of a clause: of every literal, side and position."""
    return [(index, side, position) for index, literal in enumerate(clause) for side in (0, 1)
            for position in positions(literal[1 + side])]


def places(first, second, *, selection=0, ordering=ORDERING):
    """Return the sources and targets of all superpositions."""
    return [row[:2] for row in superpositions(ordering, selection, first, second)]


def conclusions(first, second, *, selection=0, ordering=ORDERING):
    return [row[2] for row in superpositions(ordering, selection, first, second)]


def may_be_eligible(clause, index, unifier, selection):
    """Return True if the literal is eligible, strictly for a positive one; by the definition of point 53."""
    chosen = selected(ORDERING, clause, selection)
    if chosen is not None:
        return chosen == index
    after = tuple((sign, apply(unifier, left), apply(unifier, right)) for sign, left, right in clause)
    return is_maximal(ORDERING, after, index, strictly=clause[index][0])


def by_hand(selection, first, second):
    """Return the superpositions of two clauses, by the definition, as superpositions returns them."""
    found = []
    second = rename_apart(first, second)
    for i, (positive, *ends) in enumerate(first):
        for source in (0, 1):
            if not positive or (ends[1] == TRUE and source == 1):
                continue
            s, t = ends[source], ends[1 - source]
            for j, side, position in targets(second):
                sign, *others = second[j]
                u, v = others[side], others[1 - side]
                inner = subterm_at(u, position)
                if ends[1] == TRUE:
                    allowed = others[1] == TRUE and side == 0 and position == () and not sign
                else:
                    allowed = others[1] != TRUE or (side == 0 and position != ())
                if not allowed or not isinstance(inner, tuple):
                    continue
                m = unify(s, inner)
                if m is None:
                    continue
                if ORDERING.compare(apply(m, s), apply(m, t)) not in ("greater", "incomparable"):
                    continue
                if ORDERING.compare(apply(m, u), apply(m, v)) not in ("greater", "incomparable"):
                    continue
                if may_be_eligible(first, i, m, selection) and may_be_eligible(second, j, m, selection):
                    literals = list(first[:i] + first[i + 1:])
                    for index, literal in enumerate(second):
                        if index != j:
                            literals.append(literal)
                        elif ends[1] != TRUE:
                            new = replace_at(u, position, t)
                            literals.append((sign, new, v) if side == 0 else (sign, v, new))
                    raw = tuple((one, apply(m, left), apply(m, right)) for one, left, right in literals)
                    found.append(((i, source), (j, side, position), normal(clean(raw)), raw, m))
    return found


def random_term(source, depth):
    choice = source.randrange(6 if depth else 4)
    if choice < 2:
        return source.randrange(2)
    if choice < 4:
        return A if choice == 2 else B
    return f(random_term(source, depth - 1)) if choice == 4 else g(random_term(source, depth - 1), A)


def random_clause(source):
    literals = []
    for _ in range(source.randrange(1, 4)):
        positive = source.random() < 0.6
        if source.random() < 0.4:
            literals.append((positive, (source.choice("pq"), random_term(source, 1)), TRUE))
        else:
            literals.append((positive, random_term(source, 2), random_term(source, 1)))
    return tuple(literals)


def random_structure(source):
    pairs = [(i, j) for i in range(2) for j in range(2)]
    return Structure(
        2, {"a": {(): source.randrange(2)}, "b": {(): source.randrange(2)},
            "f": {(i,): source.randrange(2) for i in range(2)}, "g": {pair: source.randrange(2) for pair in pairs}},
        {name: {(i,): source.random() < 0.6 for i in range(2)} for name in "pq"})


class Examples(unittest.TestCase):
    """Points 65 to 68: the examples of the interface."""

    def test_the_examples(self):
        ordering = Ordering({}, ["a", "b", "f"])
        first = ((True, ("f", A), B),)
        second = ((False, ("f", 0), 0),)
        self.assertEqual([(row[0], row[1], row[2]) for row in superpositions(ordering, 0, first, second)],
                         [((0, 0), (0, 0, ()), ((False, B, A),))])
        self.assertEqual(superpositions(ordering, 0, second, first), [])
        first = ((True, ("p", 0), TRUE), (False, ("q", 0), TRUE))
        second = ((False, ("p", ("f", 0)), TRUE),)
        self.assertEqual(superpositions(Ordering({}, ["f", "q", "p"]), 0, first, second)[0][2],
                         ((False, ("q", ("f", 0)), TRUE),))


class Targets(unittest.TestCase):
    """Points 64 and 65: allowed and other targets."""

    def assert_places(self, first, second, expected):
        """Check what superpose returns for every source and target."""
        found = []
        for source in [(index, side) for index in range(len(first)) for side in (0, 1)]:
            for target in targets(second):
                if superpose(ORDERING, 0, first, second, source, target) is not None:
                    found.append((source, target))
        self.assertEqual(found, expected)
        self.assertEqual(places(first, second), expected)

    def test_every_position_of_every_side_of_an_equation(self):
        first = (equal(f(0), 0),)
        second = (equal(g(f(A), g(f(f(1)), 2)), g(f(3), f(B))),)
        self.assert_places(first, second, [((0, 0), (0, side, position)) for side, position in [
            (0, (1,)), (0, (2, 1)), (0, (2, 1, 1)), (1, (1,)), (1, (2,))]])

    def test_the_whole_side(self):
        self.assert_places((equal(f(0), A),), (unequal(f(B), 1),), [((0, 0), (0, 0, ()))])
        self.assert_places((equal(f(0), A),), (unequal(1, f(B)),), [((0, 0), (0, 1, ()))])

    def test_no_variable_is_a_target(self):
        self.assert_places((equal(f(0), 0),), (unequal(g(0, 1), B),), [])
        self.assert_places((equal(f(0), 0),), (p(1),), [])
        self.assertIsNone(superpose(ORDERING, 0, (equal(f(0), 0),), (p(1),), (0, 0), (0, 0, (1,))))
        self.assertIsNone(superpose(ORDERING, 0, (equal(f(0), 0),), (equal(0, 1),), (0, 0), (0, 0, ())))

    def test_a_proper_subterm_of_an_atom(self):
        for literal in [p, not_p]:
            self.assert_places((equal(f(0), 0),), (literal(f(A), f(f(1))),), [
                ((0, 0), (0, 0, (1,))), ((0, 0), (0, 0, (2,))), ((0, 0), (0, 0, (2, 1)))])

    def test_an_equation_does_not_meet_an_atom_itself(self):
        # A variable would unify with the whole atom, and with TRUE.
        first = (equal(0, A),)
        self.assert_places(first, (not_p(B),), [((0, 0), (0, 0, (1,)))])
        for target in [(0, 0, ()), (0, 1, ())]:
            self.assertIsNone(superpose(ORDERING, 0, first, (not_p(B),), (0, 0), target))
        self.assert_places(first, ((False, TRUE, TRUE),), [])

    def test_an_atom_meets_a_negative_atom_alone(self):
        first = (p(0),)
        self.assert_places(first, (not_p(f(A)),), [((0, 0), (0, 0, ()))])
        self.assert_places(first, (p(f(A)),), [])
        self.assert_places(first, (unequal(f(A), B),), [])
        self.assertIsNone(superpose(ORDERING, 0, first, (not_p(A),), (0, 1), (0, 1, ())))
        self.assertIsNone(superpose(ORDERING, 0, first, (not_p(A),), (0, 0), (0, 1, ())))
        self.assertIsNone(superpose(ORDERING, 0, first, (not_p(A),), (0, 1), (0, 0, ())))
        self.assertIsNone(superpose(ORDERING, 0, first, (not_p(A),), (0, 0), (0, 0, (1,))))

    def test_true_and_true(self):
        self.assert_places(((True, TRUE, TRUE),), ((False, TRUE, TRUE),), [])
        self.assert_places(((True, TRUE, TRUE),), (not_p(A),), [])
        self.assert_places((p(0),), ((False, TRUE, TRUE),), [])

    def test_a_negative_source(self):
        self.assert_places((not_p(0),), (not_p(0),), [])
        self.assert_places((unequal(f(0), A),), (unequal(f(0), A),), [])
        self.assertIsNone(superpose(ORDERING, 0, (unequal(f(0), A),), (unequal(f(0), B),), (0, 0), (0, 0, ())))

    def test_places_that_do_not_exist(self):
        first, second = (equal(f(0), A),), (unequal(f(B), C),)
        for source in [(1, 0), (-1, 0), (0, 2), (0, -1)]:
            self.assertIsNone(superpose(ORDERING, 0, first, second, source, (0, 0, ())))
        for target in [(1, 0, ()), (-1, 0, ()), (0, 2, ()), (0, -1, ()), (0, 0, (2,)), (0, 0, (0,)), (0, 0, (1, 1))]:
            self.assertIsNone(superpose(ORDERING, 0, first, second, (0, 0), target))
        self.assertIsNone(superpose(ORDERING, 0, (), second, (0, 0), (0, 0, ())))
        self.assertIsNone(superpose(ORDERING, 0, first, (), (0, 0), (0, 0, ())))

    def test_both_sides_as_the_source(self):
        self.assert_places((equal(A, f(0)),), (unequal(f(B), C),), [((0, 1), (0, 0, ()))])
        self.assert_places((equal(g(0, 1), g(1, 0)),), (unequal(g(B, A), C),), [
            ((0, 0), (0, 0, ())), ((0, 1), (0, 0, ()))])


class Conditions(unittest.TestCase):
    """Point 66: each of the conditions alone not met."""

    def assert_inference(self, first, second, source, target, conclusion, *, selection=0):
        result = superpose(ORDERING, selection, first, second, source, target)
        self.assertIsNotNone(result)
        self.assertEqual(result[0], conclusion)

    def assert_none(self, first, second, source, target, *, selection=0):
        self.assertIsNone(superpose(ORDERING, selection, first, second, source, target))
        self.assertNotIn((source, target), places(first, second, selection=selection))

    def test_no_unifier(self):
        start, end = (0, 0), (0, 0, (1,))
        self.assert_inference((equal(f(f(0)), 0),), (p(f(f(A))),), start, end, (p(A),))
        self.assert_none((equal(f(f(0)), 0),), (p(f(A)),), start, end)
        self.assert_none((equal(g(0, f(0)), A),), (p(g(1, 1)),), start, end)
        self.assert_none((p(A),), (not_p(B),), start, (0, 0, ()))

    def test_the_clauses_are_renamed_apart(self):
        # Without a renaming the variables 0 of both clauses would be one.
        self.assert_inference((equal(g(0, A), 0),), (p(g(B, 0)),), (0, 0), (0, 0, (1,)), (p(B),))
        self.assert_inference((equal(f(0), A),), (p(f(f(0))),), (0, 0), (0, 0, (1,)), (p(A),))

    def test_the_other_side_of_the_source(self):
        second = (p(f(A)),)
        self.assert_inference((equal(f(0), B),), second, (0, 0), (0, 0, (1,)), (p(B),))
        self.assert_none((equal(f(0), g(0, 0)),), second, (0, 0), (0, 0, (1,)))
        self.assert_none((equal(f(0), f(0)),), second, (0, 0), (0, 0, (1,)))
        # Neither side is greater before the unifier is applied.
        self.assert_none((equal(g(0, 1), g(1, 0)),), (p(g(A, B)),), (0, 0), (0, 0, (1,)))
        self.assert_none((equal(g(0, 1), g(1, 0)),), (p(g(A, A)),), (0, 0), (0, 0, (1,)))
        self.assert_inference((equal(g(0, 1), g(1, 0)),), (p(g(B, A)),), (0, 0), (0, 0, (1,)), (p(g(A, B)),))
        # Sides that stay incomparable do not prevent it.
        self.assert_inference((equal(f(0), 1),), second, (0, 0), (0, 0, (1,)), (p(0),))

    def test_the_other_side_of_the_target(self):
        first = (equal(f(0), A),)
        self.assert_inference(first, (unequal(f(B), C),), (0, 0), (0, 0, ()), (unequal(A, C),))
        self.assert_none(first, (unequal(f(B), g(B, B)),), (0, 0), (0, 0, ()))
        self.assert_none(first, (unequal(f(1), f(1)),), (0, 0), (0, 0, ()))
        self.assert_none(first, (equal(f(f(1)), g(f(1), 1)),), (0, 0), (0, 0, ()))
        self.assert_inference(first, (unequal(f(1), 2),), (0, 0), (0, 0, ()), (unequal(A, 0),))
        # The unifier decides here which side is greater.
        first = (equal(g(f(0), 1), A),)
        self.assert_none(first, (unequal(g(0, f(B)), g(f(f(B)), 0)),), (0, 0), (0, 0, ()))

    def test_the_first_literal_is_strictly_eligible(self):
        start, end = (0, 0), (0, 0, (1,))
        second = (p(f(A)),)
        self.assert_inference((equal(f(0), A), equal(0, A)), second, start, end, (equal(A, A), p(A)))
        self.assert_none((equal(f(0), A), p(0)), second, start, end)
        self.assert_none((equal(f(0), A), equal(A, f(0))), second, start, end)
        # Equal literals only after the unifier is applied.
        first = (equal(g(0, B), A), equal(g(B, 0), A))
        self.assert_none(first, (p(g(B, 1)),), start, (0, 0, (1,)))
        self.assert_inference(first, (p(g(C, 1)),), start, (0, 0, (1,)), (equal(g(B, C), A), p(A)))

    def test_a_selected_literal_in_the_first_clause(self):
        first = (equal(f(0), A), unequal(0, B))
        end = (0, 0, (1,))
        self.assert_inference(first, (p(f(A)),), (0, 0), end, (unequal(A, B), p(A)))
        self.assert_inference(first, (p(f(A)),), (0, 0), end, (unequal(A, B), p(A)), selection=2)
        self.assert_none(first, (p(f(A)),), (0, 0), end, selection=1)

    def test_a_positive_second_literal_is_strictly_eligible(self):
        first = (equal(f(0), A),)
        self.assert_inference(first, (p(f(B)), p(A)), (0, 0), (0, 0, (1,)), (p(A),))
        self.assert_none(first, (p(f(B)), p(f(C))), (0, 0), (0, 0, (1,)))
        self.assert_none(first, (p(f(0)), p(f(0))), (0, 0), (0, 0, (1,)))
        self.assert_none(first, (p(f(0)), not_p(f(0))), (0, 0), (0, 0, (1,)))
        self.assert_none(first, (p(f(B)), not_q(A)), (0, 0), (0, 0, (1,)), selection=1)
        self.assert_inference(first, (q(f(B)), not_p(A)), (0, 0), (0, 0, (1,)), (q(A), not_p(A)))

    def test_a_negative_second_literal_is_eligible(self):
        first = (equal(f(0), A),)
        self.assert_inference(first, (not_p(f(0)), not_p(f(0))), (0, 0), (0, 0, (1,)), (not_p(A), not_p(f(0))))
        second = (not_p(f(B)), not_q(f(B)))
        self.assert_none(first, second, (0, 0), (0, 0, (1,)))
        self.assert_inference(first, second, (0, 0), (0, 0, (1,)), (not_p(A), not_q(f(B))), selection=1)
        self.assert_none(first, second, (0, 0), (0, 0, (1,)), selection=2)
        second = (not_p(f(B)), q(f(C)))
        self.assert_none(first, second, (0, 0), (0, 0, (1,)))
        self.assert_inference(first, second, (0, 0), (0, 0, (1,)), (not_p(A), q(f(C))), selection=1)
        self.assert_none(first, second, (0, 0), (0, 0, (1,)), selection=2)

    def test_atoms(self):
        self.assert_inference((p(0), p(A)), (not_p(f(1)),), (0, 0), (0, 0, ()), (p(A),))
        self.assert_none((p(A), p(f(0))), (not_p(A),), (0, 0), (0, 0, ()))
        self.assert_none((p(0), q(0)), (not_p(A),), (0, 0), (0, 0, ()))
        self.assert_none((p(0), p(0)), (not_p(A),), (0, 0), (0, 0, ()))
        self.assert_none((p(0),), (not_p(A), not_q(A)), (0, 0), (0, 0, ()))


class Conclusions(unittest.TestCase):
    """Points 67 and 68."""

    def test_the_order_of_the_raw_conclusion(self):
        first = (not_p(0), equal(g(0, 1), A), p(1))
        second = (not_q(2), unequal(B, f(g(2, C))), q(B))
        ordering = Ordering({"f": 9, "g": 9}, ["a", "b", "c", "p", "q", "f", "g"])
        result = superpose(ordering, 0, first, second, (1, 0), (1, 1, (1,)))
        self.assertEqual(result, (
            (not_p(0), p(C), not_q(0), unequal(B, f(A)), q(B)),
            (not_p(0), p(C), not_q(0), unequal(B, f(A)), q(B)), {1: C, 4: 0}))

    def test_the_source_on_the_right(self):
        result = superpose(ORDERING, 0, (equal(B, f(0)),), (p(f(f(2)), 2),), (0, 1), (0, 0, (1, 1)))
        self.assertEqual(result, ((p(f(B), 0),), (p(f(B), 0),), {3: 0}))

    def test_atoms(self):
        first = (not_q(0), p(0), q(f(0)))
        second = (not_q(0), not_p(f(0)), q(0))
        ordering = Ordering({"p": 9}, [])
        result = superpose(ordering, 0, first, second, (1, 0), (1, 0, ()))
        self.assertEqual(result, (
            (not_q(f(0)), q(f(f(0))), not_q(0), q(0)), (not_q(f(1)), q(f(f(1))), not_q(1), q(1)), {0: f(1)}))

    def test_the_empty_conclusion(self):
        self.assertEqual(superpose(ORDERING, 0, (p(0),), (not_p(A),), (0, 0), (0, 0, ())), ((), (), {0: A}))

    def test_cleaning_and_normal_form(self):
        first = (equal(f(0), 0), unequal(A, A))
        second = (p(f(3)), p(3), not_p(7), p(3))
        result = superpose(Ordering({"f": 50}, []), 0, first, second, (0, 0), (0, 0, (1,)))
        self.assertEqual(result[1:], ((unequal(A, A), p(0), p(0), not_p(8), p(0)), {4: 0}))
        self.assertEqual(result[0], (p(0), not_p(1)))
        # A tautology is a conclusion too.
        self.assertEqual(conclusions((equal(f(0), A),), (equal(f(1), A),)), [(equal(A, A),)])
        # A trivial literal that only the inference makes.
        self.assertEqual(conclusions((equal(f(0), A),), (unequal(f(1), A),)), [()])

    def test_a_clause_into_itself(self):
        clause = (equal(f(f(0)), g(0, A)),)
        whole = (equal(g(0, A), g(0, A)),)
        inner = (equal(f(g(0, A)), g(f(0), A)),)
        self.assertEqual(superpositions(Ordering({"f": 9}, []), 0, clause, clause), [
            ((0, 0), (0, 0, ()), whole, whole, {1: 0}), ((0, 0), (0, 0, (1,)), inner, inner, {1: f(0)})])

    def test_the_order_of_the_list(self):
        first = (equal(f(0), A), equal(g(1, 2), g(2, 1)), p(3))
        second = (not_p(f(g(4, f(5)))), unequal(g(4, A), f(f(6))))
        found = places(first, second)
        self.assertEqual(found, sorted(found))
        self.assertEqual([source for source, _ in found][0], (0, 0))
        self.assertGreater(len({source for source, _ in found}), 2)
        self.assertGreater(len({target[0] for _, target in found}), 1)
        self.assertEqual(found, [row[:2] for row in by_hand(0, first, second)])

    def test_random_clauses_by_the_definition(self):
        source = random.Random(66)
        counts = [0, 0, 0]
        for _ in range(1200):
            first, second = random_clause(source), random_clause(source)
            selection = source.randrange(3)
            found = superpositions(ORDERING, selection, first, second)
            self.assertEqual(found, by_hand(selection, first, second), (first, second))
            counts[selection] += len(found)
            for start, end, *rest in found:
                self.assertEqual(superpose(ORDERING, selection, first, second, start, end), tuple(rest))
        self.assertGreater(min(counts), 50)

    def test_conclusions_hold(self):
        source = random.Random(68)
        found = 0
        for _ in range(3000):
            first, second = random_clause(source), random_clause(source)
            structure = random_structure(source)
            if clause_holds(structure, first) and clause_holds(structure, second):
                for row in superpositions(ORDERING, source.randrange(3), first, second):
                    found += 1
                    self.assertTrue(clause_holds(structure, row[2]))
                    self.assertTrue(clause_holds(structure, row[3]))
        self.assertGreater(found, 100)

    def test_lists_and_substitutions_are_new(self):
        first, second = (equal(f(0), A),), (p(f(1)),)
        rows = superpositions(ORDERING, 0, first, second)
        rows[0][4].clear()
        rows.clear()
        self.assertEqual(superpositions(ORDERING, 0, first, second), [
            ((0, 0), (0, 0, (1,)), (p(A),), (p(A),), {2: 0})])


class Errors(unittest.TestCase):
    """Points 12 and 52: what superposition raises."""

    def test_what_is_no_selection(self):
        for selection in (True, False, None, 3, -1, "0"):
            for first, second in [((), ()), ((p(0),), (p(0),)), ((equal(f(0), A),), (p(f(A)),)), ((not_p(0),), ())]:
                with self.assertRaises(InvalidSelection) as caught:
                    superpositions(ORDERING, selection, first, second)
                self.assertIs(caught.exception.selection, selection)
                for source in [(0, 0), (5, 0)]:
                    with self.assertRaises(InvalidSelection) as caught:
                        superpose(ORDERING, selection, first, second, source, (0, 0, (1,)))
                    self.assertIs(caught.exception.selection, selection)

    def assert_too_large(self, first, second, source, target):
        for call in [lambda: superpositions(ORDERING, 0, first, second),
                     lambda: superpose(ORDERING, 0, first, second, source, target)]:
            with self.assertRaises(TooLarge) as caught:
                call()
            self.assertEqual(caught.exception.limit, "term")

    def test_a_unifier_that_is_too_large(self):
        first = (p(0, ("w", *[0] * 50)),)
        second = (not_p(("v", *[A] * 50), 1),)
        self.assert_too_large(first, second, (0, 0), (0, 0, ()))

    def test_a_conclusion_that_is_too_large(self):
        # The unifier fits here, but the literal q does not after it.
        first = (p(0), not_q(*[0] * 10))
        second = (not_p(("v", *[A] * 200)),)
        self.assertEqual(superpositions(Ordering({}, ["q", "p"]), 0, (p(0),), second)[0][2], ())
        with self.assertRaises(TooLarge):
            superpositions(Ordering({"p": 5000}, ["q", "p"]), 0, first, second)

    def test_a_term_that_becomes_too_deep(self):
        deep = 0
        for _ in range(60):
            deep = f(deep)
        first = (equal(g(0, 1), ("h", deep)),)
        second = (p(g(deep, 0)),)
        with self.assertRaises(TooLarge):
            superpositions(Ordering({"g": 500}, []), 0, first, second)


if __name__ == "__main__":
    unittest.main()
