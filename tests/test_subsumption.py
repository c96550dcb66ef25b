"""Points 58 to 60: subsumption, variants and sets of clauses."""

import random
import unittest

from elenchus.clauses import alike, clause_variables, is_tautology, normal
from elenchus.errors import UnknownClause
from elenchus.structures import Structure, clause_holds
from elenchus.subsumption import ClauseSet, are_variants, subsumes, subsuming_substitution
from elenchus.unify import apply, match_all

TRUE = ("true",)
A = ("a",)
B = ("b",)
C = ("c",)


def p(*arguments, positive=True):
    return (positive, ("p", *arguments), TRUE)


def not_p(*arguments):
    return p(*arguments, positive=False)


def q(*arguments):
    return (True, ("q", *arguments), TRUE)


def equal(left, right):
    return (True, left, right)


def constant(number):
    return (f"c{number}",)


def after(substitution, literal):
    return (literal[0], apply(substitution, literal[1]), apply(substitution, literal[2]))


def subsumes_by_hand(clause, other, *, one_to_one=False):
    """Decide subsumption by trying all choices; with one_to_one only renamings count."""
    def search(index, used, bound):
        if index == len(clause):
            terms = list(bound.values())
            return not one_to_one or (
                not any(isinstance(term, tuple) for term in terms) and len(set(terms)) == len(terms))
        positive, left, right = clause[index]
        for place, (sign, first, second) in enumerate(other):
            if place in used or sign != positive or (right == TRUE) != (second == TRUE):
                continue
            for one, two in [(first, second)] + ([] if right == TRUE else [(second, first)]):
                found = match_all([(left, one), (right, two)], known=bound)
                if found is not None and search(index + 1, used | {place}, found):
                    return True
        return False
    return search(0, frozenset(), {})


def random_term(source, depth):
    choice = source.randrange(5 if depth else 3)
    if choice == 0:
        return source.randrange(3)
    if choice < 3:
        return A if choice == 1 else B
    if choice == 3:
        return ("f", random_term(source, depth - 1))
    return ("g", random_term(source, depth - 1), random_term(source, depth - 1))


def random_literal(source):
    positive = source.random() < 0.7
    kind = source.randrange(3)
    if kind == 0:
        return (positive, ("p", random_term(source, 1)), TRUE)
    if kind == 1:
        return (positive, ("q", random_term(source, 0), random_term(source, 0)), TRUE)
    return (positive, random_term(source, 1), random_term(source, 1))


def random_clause(source, length):
    return tuple(random_literal(source) for _ in range(length))


def changed(source, clause):
    """Return an instance of the clause with its literals shuffled, some sides exchanged and some literals added."""
    substitution = {variable: random_term(source, 1) for variable in range(3)}
    literals = [after(substitution, literal) for literal in clause]
    literals = [literal[:1] + literal[:0:-1] if literal[2] != TRUE and source.random() < 0.5 else literal
                for literal in literals]
    literals += random_clause(source, source.randrange(3))
    source.shuffle(literals)
    if literals and source.random() < 0.4:
        literals[0] = random_literal(source)
    return tuple(literals)


class Subsumption(unittest.TestCase):
    """Point 58."""

    def assert_subsumes(self, clause, other):
        substitution = subsuming_substitution(clause, other)
        self.assertIsInstance(substitution, dict, (clause, other))
        self.assertEqual(sorted(substitution), sorted(clause_variables(clause)))
        self.assertIs(subsumes(clause, other), True)
        left = list(other)
        self.assertTrue(self.chosen([after(substitution, literal) for literal in clause], left), (clause, other))

    def chosen(self, literals, others):
        """Return True if different alike literals can be found for the literals."""
        if not literals:
            return True
        for index, other in enumerate(others):
            if alike(literals[0], other) and self.chosen(literals[1:], others[:index] + others[index + 1:]):
                return True
        return False

    def assert_not(self, clause, other):
        self.assertIsNone(subsuming_substitution(clause, other), (clause, other))
        self.assertIs(subsumes(clause, other), False)

    def test_the_example(self):
        self.assert_not((p(0), p(0)), (p(A),))

    def test_instances(self):
        self.assert_subsumes((p(0),), (p(A),))
        self.assert_subsumes((p(0),), (p(("f", 3)),))
        self.assert_not((p(A),), (p(0),))
        self.assert_not((p(A),), (p(B),))
        self.assert_subsumes((p(0), q(0)), (q(A), not_p(A), p(A)))
        self.assert_not((p(0), q(0)), (q(A), p(B)))

    def test_the_sign_counts(self):
        self.assert_not((p(0),), (not_p(0),))
        self.assert_not((equal(0, A),), ((False, A, A),))

    def test_different_literals_for_different_literals(self):
        self.assert_not((p(0), p(1)), (p(A),))
        self.assert_not((p(0), p(1)), (p(A), q(A)))
        self.assert_subsumes((p(0), p(1)), (p(A), p(A)))
        self.assert_subsumes((p(0), p(0)), (p(A), p(A)))
        self.assert_not((p(0), p(0)), (p(A), p(B)))
        self.assert_not((p(A), p(0), p(1)), (p(A), p(B)))

    def test_a_choice_that_has_to_be_taken_back(self):
        self.assert_subsumes((p(0), q(0)), (p(A), p(B), q(B)))
        self.assert_subsumes((p(0), p(1), q(1), q(0)), (p(A), p(B), p(C), q(C), q(B)))
        self.assert_subsumes((p(0), p(A)), (p(A), p(B)))
        self.assert_subsumes((equal(0, 1), p(0)), (equal(A, B), p(B)))
        self.assert_subsumes((equal(0, 1), equal(1, 2), p(2)), (equal(A, B), equal(A, C), p(C)))

    def test_sides_of_equations(self):
        self.assert_subsumes((equal(("f", 0), 0),), (equal(A, ("f", A)),))
        self.assert_subsumes(((False, 0, A),), ((False, A, B),))
        self.assert_not((equal(("f", 0), 0),), (equal(("f", A), B),))
        self.assert_subsumes((equal(0, 1),), (equal(A, A),))

    def test_the_sides_of_atoms_are_not_exchanged(self):
        self.assert_not((p(0, 1), q(0)), (p(A, B), q(B)))

    def test_an_atom_and_an_equation_never_meet(self):
        self.assert_not((equal(0, 1),), (p(A),))
        self.assert_not((equal(0, 1),), ((True, TRUE, TRUE),))
        self.assert_not((equal(0, 0),), ((True, TRUE, TRUE),))
        self.assert_not(((False, 0, 1),), (not_p(A),))
        self.assert_not((p(0),), (equal(A, B),))
        self.assert_not(((True, TRUE, TRUE),), (equal(A, A),))
        self.assert_not(((True, TRUE, TRUE),), (p(A),))
        self.assert_subsumes(((True, TRUE, TRUE),), ((True, TRUE, TRUE), p(A)))
        self.assert_not(((False, TRUE, TRUE),), ((True, TRUE, TRUE),))

    def test_variables_of_both_clauses_with_the_same_number(self):
        self.assert_subsumes((p(0, 1),), (p(1, 0),))
        self.assertEqual(subsuming_substitution((p(0, 1),), (p(1, 0),)), {0: 1, 1: 0})
        self.assert_subsumes((p(0),), (p(("f", 0)),))
        self.assertEqual(subsuming_substitution((p(0),), (p(("f", 0)),)), {0: ("f", 0)})
        self.assert_not((p(0, 0),), (p(0, 1),))
        self.assertEqual(subsuming_substitution((p(0, 5),), (p(0, 0),)), {0: 0, 5: 0})

    def test_the_variables_of_the_other_clause_are_not_replaced(self):
        self.assert_not((p(A, 0),), (p(1, B),))
        self.assert_not((p(("f", 0)),), (p(0),))

    def test_the_empty_clause(self):
        self.assertEqual(subsuming_substitution((), ()), {})
        self.assertEqual(subsuming_substitution((), (p(0), q(1))), {})
        self.assert_not((p(0),), ())

    def test_the_substitution_is_new(self):
        subsuming_substitution((p(0),), (p(A),)).clear()
        self.assertEqual(subsuming_substitution((p(0),), (p(A),)), {0: A})

    def test_random_clauses_by_trying_all_choices(self):
        source = random.Random(58)
        counts = {True: 0, False: 0}
        for _ in range(3000):
            clause = random_clause(source, source.randrange(5))
            other = changed(source, clause) if source.random() < 0.7 else random_clause(source, source.randrange(5))
            expected = subsumes_by_hand(clause, other)
            counts[expected] += 1
            if expected:
                self.assert_subsumes(clause, other)
            else:
                self.assert_not(clause, other)
        self.assertGreater(min(counts.values()), 500)

    def test_it_is_reflexive_and_transitive(self):
        source = random.Random(59)
        for _ in range(300):
            first = random_clause(source, source.randrange(4))
            second = changed(source, first)
            third = changed(source, second)
            self.assert_subsumes(first, first)
            if subsumes(first, second) and subsumes(second, third):
                self.assert_subsumes(first, third)

    def test_what_holds(self):
        source = random.Random(60)
        found = 0
        for _ in range(400):
            first = random_clause(source, source.randrange(1, 3))
            second = changed(source, first)
            structure = random_structure(source)
            if subsumes(first, second) and clause_holds(structure, first):
                found += 1
                self.assertTrue(clause_holds(structure, second), (first, second))
        self.assertGreater(found, 30)


def random_structure(source):
    """Return a structure of size 2 for the symbols of the random clauses."""
    pairs = [(i, j) for i in range(2) for j in range(2)]
    return Structure(
        2, {"a": {(): source.randrange(2)}, "b": {(): source.randrange(2)},
            "f": {(i,): source.randrange(2) for i in range(2)}, "g": {pair: source.randrange(2) for pair in pairs}},
        {"p": {(i,): source.random() < 0.6 for i in range(2)}, "q": {pair: source.random() < 0.6 for pair in pairs}})


class GreatClauses(unittest.TestCase):
    """Point 58: clauses of 24 literals, for which trying all choices would take for ever."""

    def assert_answer(self, expected, clause, other):
        self.assertLessEqual(max(len(clause), len(other)), 24)
        substitution = subsuming_substitution(tuple(clause), tuple(other))
        self.assertEqual(substitution is not None, expected)
        if expected:
            self.assertEqual(sorted(substitution), sorted(clause_variables(clause)))
            for literal in clause:
                self.assertTrue(any(alike(after(substitution, literal), one) for one in other))

    def test_independent_literals(self):
        clause = [p(index) for index in range(24)]
        self.assert_answer(True, clause, [p(constant(index)) for index in range(24)])
        self.assert_answer(False, clause, [p(constant(index)) for index in range(23)] + [q(A)])
        clause = [equal(2 * index, 2 * index + 1) for index in range(24)]
        self.assert_answer(True, clause, [equal(constant(index), A) for index in range(24)])
        self.assert_answer(False, clause, [equal(constant(index), A) for index in range(23)] + [q(A)])

    def test_independent_pairs_of_literals(self):
        clause = [literal for index in range(12) for literal in (p(index, 100 + index), q(100 + index))]
        other = [literal for index in range(11) for literal in (p(constant(index), A), q(A))]
        self.assert_answer(True, clause, other + [p(A, A), q(A)])
        self.assert_answer(False, clause, other + [p(A, B), q(C)])

    def test_chains_and_rings(self):
        chain = [equal(index, index + 1) for index in range(24)]
        constants = [equal(constant(index), constant(index + 1)) for index in range(24)]
        self.assert_answer(True, chain, constants[::-1])
        self.assert_answer(True, chain, constants[::2] + constants[1::2])
        self.assert_answer(False, [equal(index, (index + 1) % 24) for index in range(24)], constants)
        self.assert_answer(False, chain, constants[:23] + [equal(A, B)])

    def test_walks(self):
        clause = [p(index, index + 1) for index in range(24)]
        other = [p(constant(index % 7), constant((5 * index + 1) % 7)) for index in range(24)]
        self.assert_answer(False, clause, other)
        other = [p(constant(index * index % 24), constant((index + 1) * (index + 1) % 24)) for index in range(24)]
        self.assert_answer(True, clause, other[::5] + [one for index, one in enumerate(other) if index % 5])

    def test_different_regular_graphs(self):
        ring = [(index, (index + 1) % 16) for index in range(16)]
        first = ring + [(index, index + 8) for index in range(8)]
        second = ring + [(2 * index, (2 * index + 5) % 16) for index in range(8)]
        clause = [equal(one, two) for one, two in first]
        self.assert_answer(False, clause, [equal(constant(one), constant(two)) for one, two in second])
        self.assert_answer(True, clause, [equal(constant(15 - one), constant(15 - two)) for one, two in first])
        self.assertIs(are_variants(tuple(clause), tuple(equal(one, two) for one, two in second)), False)
        self.assertIs(are_variants(tuple(clause), tuple(equal(15 - two, 15 - one) for one, two in first[::-1])), True)

    def test_terms_that_are_deeply_nested(self):
        deep = A
        for _ in range(97):
            deep = ("s", deep)
        clause = (p(0, 1), p(1, 2), q(2))
        self.assert_answer(True, clause, (p(A, deep), p(deep, ("s", deep)), p(deep, B), q(("s", deep))))
        self.assert_answer(False, clause, (p(A, deep), p(("s", deep), B), q(B)))


class Variants(unittest.TestCase):
    """Point 59."""

    def assert_variants(self, clause, other, expected):
        self.assertIs(are_variants(clause, other), expected, (clause, other))
        self.assertIs(are_variants(other, clause), expected, (other, clause))

    def test_renamings(self):
        self.assert_variants((p(0, 1),), (p(7, 3),), True)
        self.assert_variants((p(0, 1), q(1)), (q(0), p(1, 0)), True)
        self.assert_variants((equal(0, A), q(0)), (q(4), equal(A, 4)), True)
        self.assert_variants((), (), True)
        self.assert_variants((p(A),), (p(A),), True)

    def test_the_renaming_is_one_to_one(self):
        self.assert_variants((p(0, 1),), (p(0, 0),), False)
        self.assert_variants((p(0), q(1)), (p(0), q(0)), False)
        self.assert_variants((p(0), p(1)), (p(0), p(0)), False)
        self.assert_variants((equal(0, 1),), (equal(0, 0),), False)

    def test_variables_alone_replace_variables(self):
        self.assert_variants((p(0),), (p(A),), False)
        self.assert_variants((p(0, 1),), (p(0, ("f", 0)),), False)

    def test_the_number_of_literals(self):
        self.assert_variants((p(0),), (p(0), p(1)), False)
        self.assert_variants((p(0),), (p(0), p(0)), False)
        self.assert_variants((), (p(0),), False)

    def test_clauses_of_which_one_subsumes_the_other(self):
        first = (p(0, 1), p(1, 0), p(0, 0))
        second = (p(0, 0), p(1, 2), p(2, 1))
        self.assertTrue(subsumes(second, first))
        self.assert_variants(first, second, False)
        first = (equal(0, 0), equal(1, 2))
        second = (equal(0, 0), equal(0, 1))
        self.assertTrue(subsumes(first, second))
        self.assert_variants(first, second, False)
        first = (p(0, 1),)
        second = (p(0, 1), p(2, 3))
        self.assertTrue(subsumes(first, second))
        self.assert_variants(first, second, False)

    def test_each_would_subsume_the_other_if_literals_could_be_chosen_twice(self):
        first = (p(0, 0), p(0, 1))
        second = (p(0, 0),)
        self.assertFalse(subsumes(first, second))
        self.assert_variants(first, second, False)
        first = (p(0, 0), p(0, 1), p(0, 1))
        second = (p(0, 0), p(0, 0), p(0, 1))
        self.assertFalse(subsumes(first, second))
        self.assertFalse(subsumes(second, first))
        self.assert_variants(first, second, False)

    def test_clauses_that_subsume_each_other_are_variants(self):
        # Different literals are chosen for different ones, so nothing else can be the case.
        source = random.Random(63)
        found = 0
        for _ in range(3000):
            clause = tuple(source.choice([p(source.randrange(2), source.randrange(2)),
                                          equal(source.randrange(3), source.randrange(3))]) for _ in range(3))
            other = tuple(source.choice([p(source.randrange(2), source.randrange(2)),
                                         equal(source.randrange(3), source.randrange(3))]) for _ in range(3))
            if subsumes(clause, other) and subsumes(other, clause):
                found += 1
                self.assert_variants(clause, other, True)
            else:
                self.assert_variants(clause, other, False)
        self.assertGreater(found, 30)

    def test_random_clauses_by_trying_all_choices(self):
        source = random.Random(61)
        counts = {True: 0, False: 0}
        for _ in range(2000):
            clause = random_clause(source, source.randrange(5))
            names = [5, 1, 0]
            source.shuffle(names)
            if source.random() < 0.4:
                names[0] = names[1]
            other = [after(dict(enumerate(names)), literal) for literal in clause]
            other = [literal[:1] + literal[:0:-1] if literal[2] != TRUE and source.random() < 0.5 else literal
                     for literal in other]
            source.shuffle(other)
            expected = subsumes_by_hand(clause, other, one_to_one=True)
            counts[expected] += 1
            self.assert_variants(clause, tuple(other), expected)
        self.assertGreater(min(counts.values()), 100)


class ClauseSets(unittest.TestCase):
    """Point 60."""

    def test_the_example(self):
        box = ClauseSet()
        self.assertEqual(box.insert((p(A),)), (0, []))
        self.assertEqual(box.insert((p(0),)), (1, [0]))
        self.assertEqual(box.insert((p(A), p(A))), (None, []))

    def test_an_empty_set(self):
        box = ClauseSet()
        self.assertEqual((len(box), list(box), box.numbers(), box.subsumer((p(0),))), (0, [], [], None))
        self.assertIs(box.has_variant(()), False)
        self.assertIsNone(box.subsumer(()))

    def test_tautologies(self):
        box = ClauseSet()
        for clause in [(p(0), not_p(0)), (equal(3, 3), p(A)), ((True, TRUE, TRUE),)]:
            self.assertEqual(box.insert(clause), (None, []))
        self.assertEqual(len(box), 0)
        self.assertEqual(box.insert(((False, TRUE, TRUE),)), (0, []))

    def test_a_clause_that_is_subsumed(self):
        box = ClauseSet()
        box.insert((p(0), q(1)))
        self.assertEqual(box.insert((q(A), equal(A, B), p(A))), (None, []))
        self.assertEqual(box.insert((q(5), p(3))), (None, []))
        self.assertEqual(box.numbers(), [0])
        self.assertEqual(box.insert((q(5),)), (1, [0]))

    def test_a_clause_that_subsumes_several(self):
        box = ClauseSet()
        for clause in [(p(A),), (q(A),), (p(B), q(B)), (q(C), q(B)), (not_p(0),)]:
            box.insert(clause)
        self.assertEqual(box.insert((q(0),)), (5, [1, 2, 3]))
        self.assertEqual(box.numbers(), [0, 4, 5])
        self.assertEqual(list(box), [(p(A),), (not_p(0),), (q(0),)])
        self.assertEqual(box.insert(()), (6, [0, 4, 5]))
        self.assertEqual(list(box), [()])
        self.assertEqual(box.insert((p(0),)), (None, []))

    def test_numbers_are_never_used_twice(self):
        box = ClauseSet()
        numbers = [box.insert(clause)[0] for clause in [(p(A),), (p(A),), (p(0),), (equal(0, 0),), (q(A),), (q(0),)]]
        self.assertEqual(numbers, [0, None, 1, None, 2, 3])
        self.assertEqual(box.numbers(), [1, 3])

    def test_unknown_numbers(self):
        box = ClauseSet()
        box.insert((p(A),))
        self.assertEqual(box.clause(0), (p(A),))
        box.insert((p(0),))
        for number in (0, 2, -1, 17):
            with self.assertRaises(UnknownClause) as caught:
                box.clause(number)
            self.assertEqual(caught.exception.number, number)
        self.assertEqual(box.clause(1), (p(0),))

    def test_the_normal_form(self):
        box = ClauseSet()
        box.insert((p(9, 4), equal(A, 4), p(9, 4), equal(4, A)))
        self.assertEqual(box.clause(0), (p(0, 1), equal(A, 1)))
        self.assertEqual(box.insert((p(7), p(7))), (1, []))
        self.assertEqual(box.clause(1), (p(0),))
        # In its normal form the clause has one literal, so the kept one does not subsume it.
        box = ClauseSet()
        box.insert((q(0), q(1)))
        self.assertEqual(box.insert((q(A), q(A))), (1, []))

    def test_subsumer(self):
        box = ClauseSet()
        for clause in [(p(A), q(0)), (p(B), q(0)), (p(0), q(B))]:
            box.insert(clause)
        self.assertEqual(box.subsumer((q(B), p(B))), 1)
        self.assertEqual(box.subsumer((q(B), p(C))), 2)
        self.assertEqual(box.subsumer((q(A), p(A))), 0)
        self.assertEqual(box.subsumer((q(A), p(C))), None)
        self.assertEqual(box.subsumer((p(A),)), None)
        box.insert((p(A),))
        self.assertEqual(box.subsumer((q(A), p(A))), 3)

    def test_subsumer_takes_the_clause_as_it_is(self):
        box = ClauseSet()
        box.insert((p(0), p(1)))
        self.assertEqual(box.subsumer((p(A), p(A))), 0)
        self.assertEqual(box.subsumer((p(A),)), None)

    def test_has_variant(self):
        box = ClauseSet()
        box.insert((p(0, 1), equal(0, A)))
        self.assertIs(box.has_variant((equal(A, 5), p(5, 2))), True)
        self.assertIs(box.has_variant((equal(A, 5), p(5, 2), p(5, 2))), True)
        self.assertIs(box.has_variant((equal(A, 5), p(2, 5))), False)
        self.assertIs(box.has_variant((equal(A, 5), p(5, 5))), False)
        box.insert((equal(0, A),))
        self.assertIs(box.has_variant((equal(A, 5), p(5, 2))), False)

    def test_lists_are_new(self):
        box = ClauseSet()
        box.insert((p(A),))
        box.numbers().append(7)
        _, removed = box.insert((p(0),))
        removed.append(3)
        self.assertEqual(box.numbers(), [1])
        self.assertEqual(list(box), [(p(0),)])
        self.assertEqual(list(box), [(p(0),)])

    def test_two_sets_do_not_touch_each_other(self):
        first, second = ClauseSet(), ClauseSet()
        first.insert((p(A),))
        self.assertEqual(len(second), 0)
        self.assertEqual(second.insert((p(0),)), (0, []))
        self.assertEqual(first.clause(0), (p(A),))

    def test_random_insertions(self):
        source = random.Random(62)
        for _ in range(30):
            box = ClauseSet()
            inserted = []
            kept = {}
            for _ in range(25):
                clause = random_clause(source, source.randrange(1, 4))
                inserted.append(clause)
                before = {number: box.clause(number) for number in box.numbers()}
                self.assertEqual(before, kept)
                number, removed = box.insert(clause)
                if number is not None:
                    self.assertEqual(removed, [one for one in sorted(kept) if subsumes(normal(clause), kept[one])])
                    kept = {one: kept[one] for one in kept if one not in removed}
                    kept[number] = normal(clause)
            self.assertEqual(list(box), [kept[number] for number in sorted(kept)])
            self.assertEqual(len(box), len(kept))
            for number in kept:
                self.assertEqual([one for one in kept if subsumes(kept[one], kept[number])], [number])
            for clause in inserted:
                self.assertTrue(is_tautology(clause) or box.subsumer(normal(clause)) is not None)


if __name__ == "__main__":
    unittest.main()
