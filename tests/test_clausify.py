"""Points 42 and 43: the clause form."""

import random
import unittest

from elenchus.clausify import ClauseForm, clausify, matrix_clauses
from elenchus.errors import TooLarge
from elenchus.reader import read_formula
from elenchus.skolem import Skolemization
from elenchus.structures import Structure, clause_holds, formula_holds

TRUE = ("true",)
FALSE = ("false",)


def atom(symbol, *arguments):
    return ("equal", (symbol, *arguments), TRUE)


def clauses_of(formula):
    """Return the clauses of a matrix of constant predicates, each as a string of their names."""
    return ["".join(("" if positive else "-") + left[0] for positive, left, _ in clause)
            for clause in matrix_clauses(formula)]


def conjunction(count):
    """Return a matrix with this many clauses, all of them different."""
    formula = atom("p0")
    for index in range(1, count):
        formula = ("and", formula, atom(f"p{index}"))
    return formula


P, Q, R, S = (atom(symbol) for symbol in "pqrs")


class Matrices(unittest.TestCase):
    """Point 42: the clauses and their order."""

    def test_the_example(self):
        first = ("equal", ("p", "X"), TRUE)
        second = ("equal", "X", ("a",))
        self.assertEqual(
            matrix_clauses(("or", ("not", first), ("and", second, first))),
            [((False, ("p", 0), TRUE), (True, 0, ("a",))), ((False, ("p", 0), TRUE), (True, ("p", 0), TRUE))])

    def test_literals(self):
        self.assertEqual(matrix_clauses(P), [((True, ("p",), TRUE),)])
        self.assertEqual(matrix_clauses(("not", P)), [((False, ("p",), TRUE),)])
        self.assertEqual(matrix_clauses(("equal", "Y", "X")), [((True, 0, 1),)])
        self.assertEqual(matrix_clauses(("not", ("equal", ("f", "X"), ("a",)))), [((False, ("f", 0), ("a",)),)])

    def test_and(self):
        self.assertEqual(clauses_of(("and", ("and", P, Q), ("and", R, P))), ["p", "q", "r", "p"])

    def test_or(self):
        self.assertEqual(clauses_of(("or", ("and", P, Q), ("and", R, S))), ["pr", "ps", "qr", "qs"])
        self.assertEqual(clauses_of(("or", ("or", R, P), Q)), ["rpq"])

    def test_both_nested_in_one_another(self):
        formula = ("and", ("or", ("and", P, ("or", Q, ("and", R, S))), ("and", S, R)), Q)
        self.assertEqual(clauses_of(formula), ["ps", "pr", "qrs", "qr", "qs", "qsr", "q"])

    def test_true_and_false(self):
        self.assertEqual(matrix_clauses(TRUE), [])
        self.assertEqual(matrix_clauses(FALSE), [()])
        self.assertEqual(matrix_clauses(("and", FALSE, FALSE)), [(), ()])
        self.assertEqual(clauses_of(("and", TRUE, P)), ["p"])
        self.assertEqual(clauses_of(("or", FALSE, ("and", P, FALSE))), ["p", ""])
        self.assertEqual(clauses_of(("or", TRUE, FALSE)), [])
        self.assertEqual(clauses_of(("or", ("and", P, Q), TRUE)), [])

    def test_a_literal_that_occurs_for_the_second_time(self):
        self.assertEqual(clauses_of(("or", ("or", P, Q), ("or", P, ("or", R, Q)))), ["pqr"])
        self.assertEqual(clauses_of(("or", P, ("not", P))), ["p-p"])
        self.assertEqual(clauses_of(("or", ("and", P, Q), ("and", P, Q))), ["p", "pq", "qp", "q"])

    def test_literals_that_are_only_alike_stay(self):
        formula = ("or", ("equal", "X", "Y"), ("or", ("equal", "Y", "X"), ("equal", "X", "Y")))
        self.assertEqual(matrix_clauses(formula), [((True, 0, 1), (True, 1, 0))])
        formula = ("or", atom("p", "X"), atom("p", "Y"))
        self.assertEqual(matrix_clauses(formula), [((True, ("p", 0), TRUE), (True, ("p", 1), TRUE))])

    def test_the_variables_of_each_clause(self):
        formula = ("and", ("or", atom("p", "Y", "Z"), ("equal", ("f", "X"), "Z")), atom("q", "X"))
        self.assertEqual(matrix_clauses(formula), [
            ((True, ("p", 0, 1), TRUE), (True, ("f", 2), 1)), ((True, ("q", 0), TRUE),)])


class Limits(unittest.TestCase):
    """Point 42: the numbers of clauses."""

    def assert_too_large(self, matrix, **limit):
        with self.assertRaises(TooLarge) as caught:
            matrix_clauses(matrix, **limit)
        self.assertEqual(caught.exception.limit, "clauses")

    def test_the_limit_and_one_above(self):
        six = ("or", ("and", P, Q), ("and", R, ("and", S, P)))
        self.assertEqual(len(matrix_clauses(six, limit=6)), 6)
        self.assert_too_large(six, limit=5)
        self.assertEqual(len(matrix_clauses(conjunction(7), limit=7)), 7)
        self.assert_too_large(conjunction(7), limit=6)

    def test_small_limits(self):
        self.assertEqual(matrix_clauses(P, limit=1), [((True, ("p",), TRUE),)])
        self.assertEqual(matrix_clauses(FALSE, limit=1), [()])
        self.assertEqual(matrix_clauses(TRUE, limit=0), [])
        for matrix in [P, ("not", P), FALSE]:
            self.assert_too_large(matrix, limit=0)

    def test_the_default_limit(self):
        self.assertEqual(len(matrix_clauses(conjunction(200))), 200)
        self.assert_too_large(conjunction(201))
        self.assertEqual(len(matrix_clauses(("or", conjunction(20), conjunction(10)))), 200)
        self.assert_too_large(("or", conjunction(3), conjunction(67)))

    def test_a_subformula_that_is_larger_than_the_whole(self):
        for inner in [conjunction(6), ("or", ("and", P, Q), conjunction(3))]:
            for matrix in [("or", inner, TRUE), ("or", TRUE, inner), ("and", P, ("or", TRUE, inner))]:
                self.assert_too_large(matrix, limit=5)
                self.assertLess(len(matrix_clauses(matrix, limit=6)), 2)

    def test_the_numbers_count_before_literals_are_removed(self):
        self.assert_too_large(("and", P, P), limit=1)
        self.assertEqual(len(matrix_clauses(("and", P, P), limit=2)), 2)

    def test_the_number_is_computed_before_any_clause_is_made(self):
        matrix = conjunction(2)
        for _ in range(90):
            matrix = ("or", matrix, conjunction(2))
        self.assert_too_large(matrix)
        self.assert_too_large(matrix, limit=2 ** 80)
        # Making its clauses would take for ever: they are 2 to the power of 90.
        self.assert_too_large(("and", matrix, matrix), limit=2 ** 91)

    def test_a_long_clause(self):
        parts = [("equal", ("f", "X"), (f"c{index % 900}",)) for index in range(2048)]
        while len(parts) > 1:
            parts = [("or", *parts[index:index + 2]) for index in range(0, len(parts), 2)]
        self.assertEqual(len(matrix_clauses(parts[0])[0]), 900)


class Forms(unittest.TestCase):
    """Point 43."""

    def test_the_example(self):
        self.assertEqual(len(clausify([("one", ("some", "X", ("equal", "X", ("a",))))])), 1)

    def test_len_iteration_and_fields(self):
        form = clausify([("one", read_formula("p & q")), ("two", read_formula("true")), ("three", read_formula("r"))])
        pairs = [("one", ((True, ("p",), TRUE),)), ("one", ((True, ("q",), TRUE),)), ("three", ((True, ("r",), TRUE),))]
        self.assertIsInstance(form, ClauseForm)
        self.assertEqual(len(form), 3)
        self.assertEqual(list(form), pairs)
        self.assertEqual(list(form), pairs)
        self.assertEqual(form.named_clauses, pairs)
        self.assertIsInstance(form.named_clauses, list)
        self.assertEqual([type(one) for one in form.skolemizations], [Skolemization] * 3)
        self.assertEqual([one.records for one in form.skolemizations], [[], [], []])
        self.assertEqual(form.skolemizations[1].matrix, TRUE)

    def test_no_formulas(self):
        form = clausify([])
        self.assertEqual((len(form), list(form), form.named_clauses, form.skolemizations), (0, [], [], []))

    def test_several_formulas_with_quantifiers(self):
        form = clausify([
            ("one", read_formula("all X: some Y: q(X, Y)")),
            ("two", read_formula("~(all X: all Y: ~q(Y, X))")),
            ("three", read_formula("(some X: p(X)) <-> r"))])
        self.assertEqual(list(form), [
            ("one", ((True, ("q", 0, ("sk1", 0)), TRUE),)),
            ("two", ((True, ("q", ("sk3",), ("sk2",)), TRUE),)),
            ("three", ((False, ("p", 0), TRUE), (True, ("r",), TRUE))),
            ("three", ((False, ("r",), TRUE), (True, ("p", ("sk4",)), TRUE)))])
        self.assertEqual([one.skolem_symbols for one in form.skolemizations], [["sk1"], ["sk2", "sk3"], ["sk4"]])
        self.assertEqual(form.skolemizations[0].matrix, atom("q", "V1", ("sk1", "V1")))

    def test_quantifiers_are_renamed_behind_the_negation_normal_form(self):
        form = clausify([("one", read_formula("(some X: p(X)) <-> (some X: q(X))"))])
        self.assertEqual(form.skolemizations[0].records, [
            ("sk1", (), "V2", atom("q", "V2")), ("sk2", (), "V4", atom("p", "V4"))])

    def test_skolem_symbols_that_occur(self):
        form = clausify([
            ("one", ("some", "X", atom("p", "X"))),
            ("two", ("some", "X", ("equal", "X", ("sk3", ("sk1",))))),
            ("three", ("or", atom("sk4", ("a",)), ("some", "X", atom("p", "X"))))])
        self.assertEqual([one.skolem_symbols for one in form.skolemizations], [["sk2"], ["sk5"], ["sk6"]])

    def test_free_variables(self):
        form = clausify([("one", ("some", "Y", ("and", atom("q", "Z", "Y"), ("not", atom("q", "X", "Z")))))])
        self.assertEqual(list(form), [
            ("one", ((True, ("q", 0, ("sk1", 0, 1)), TRUE),)), ("one", ((False, ("q", 0, 1), TRUE),))])

    def test_no_argument_is_modified(self):
        axioms = [("one", ("some", "X", atom("p", "X")))]
        clausify(axioms)
        self.assertEqual(axioms, [("one", ("some", "X", atom("p", "X")))])

    def test_the_forms_do_not_touch_each_other(self):
        axioms = [("one", ("some", "X", atom("p", "X")))]
        clausify(axioms).named_clauses.clear()
        self.assertEqual(clausify(axioms).skolemizations[0].skolem_symbols, ["sk1"])
        self.assertEqual(len(clausify(axioms)), 1)

    def test_arities_beyond_the_signature(self):
        self.assertEqual(len(clausify([("one", atom("p", *[("a",)] * 9))])), 1)


def too_large(axioms, **limit):
    """Return the limit that the formulas exceed."""
    try:
        clausify(axioms, **limit)
    except TooLarge as error:
        return error.limit
    return None


def long_formula():
    """Return a formula whose negation normal form has more than 5000 tuples."""
    formula = P
    for _ in range(12):
        formula = ("iff", formula, P)
    return formula


def skolem_arguments():
    """Return a formula whose Skolem function would have 9 arguments."""
    formula = ("some", "Y", atom("p", "Y"))
    for index in range(9):
        formula = ("all", f"X{index}", formula)
    return formula


class FormLimits(unittest.TestCase):
    """Point 43: the limit holds for each formula, and the first one that is too large counts."""

    def test_the_limit_holds_for_each_formula(self):
        axioms = [(f"n{index}", conjunction(3)) for index in range(5)]
        self.assertEqual(len(clausify(axioms, limit=3)), 15)
        self.assertEqual(too_large(axioms, limit=2), "clauses")
        self.assertEqual(len(clausify([("one", conjunction(150)), ("two", conjunction(200))])), 350)
        self.assertEqual(too_large([("one", P), ("two", conjunction(201))]), "clauses")

    def test_the_order_for_one_formula(self):
        many = conjunction(201)
        self.assertEqual(too_large([("one", ("and", many, ("and", skolem_arguments(), long_formula())))]), "formula")
        self.assertEqual(too_large([("one", ("and", many, skolem_arguments()))]), "arguments")
        self.assertEqual(too_large([("one", many)]), "clauses")

    def test_the_first_formula_that_is_too_large(self):
        named = {"clauses": conjunction(201), "arguments": skolem_arguments(), "formula": long_formula()}
        for first in named:
            for second in named:
                self.assertEqual(too_large([("z", P), ("one", named[first]), ("two", named[second])]), first)

    def test_the_closure_counts(self):
        formula = ("some", "Y", atom("p", *[f"X{index}" for index in range(9)]))
        self.assertEqual(too_large([("one", formula)]), "arguments")
        self.assertIsNone(too_large([("one", literals(2500, ("a",), negated=1))]))
        self.assertIsNone(too_large([("one", literals(2500, "X", negated=0))]))
        self.assertEqual(too_large([("one", literals(2500, "X", negated=1))]), "formula")


def literals(count, argument, *, negated):
    """Return a disjunction of 2 * count - 1 + negated tuples."""
    pieces = [("not", atom("p", argument))] * negated + [atom("p", argument)] * (count - negated)
    while len(pieces) > 1:
        pieces = [("or", *pieces[index:index + 2]) if index + 1 < len(pieces) else pieces[index]
                  for index in range(0, len(pieces), 2)]
    return pieces[0]


def random_matrix(source, depth):
    if depth == 0 or source.random() < 0.2:
        literal = source.choice([
            TRUE, FALSE, atom("p", "X"), atom("p", "Y"), ("equal", "X", "Y"), ("equal", ("f", "X"), "Y"), atom("q")])
        return ("not", literal) if literal[0] == "equal" and source.random() < 0.5 else literal
    return (source.choice(["and", "or"]), random_matrix(source, depth - 1), random_matrix(source, depth - 1))


class Meaning(unittest.TestCase):
    """Point 42: the matrix is true exactly if each of its clauses is."""

    def test_random_matrices(self):
        source = random.Random(42)
        outcomes = []
        for _ in range(150):
            matrix = random_matrix(source, 4)
            if size_of(matrix) > 200:
                continue
            values = [source.randrange(2) for _ in range(5)]
            structure = Structure(2, {"f": {(0,): values[0], (1,): values[1]}}, {
                "p": {(0,): values[2] == 1, (1,): values[3] == 1}, "q": {(): values[4] == 1}})
            outcomes.append(formula_holds(structure, matrix))
            clauses = matrix_clauses(matrix, limit=10 ** 6)
            self.assertEqual(len(clauses), size_of(matrix))
            self.assertEqual(outcomes[-1], all(clause_holds(structure, clause) for clause in clauses))
        self.assertGreater(outcomes.count(True), 10)
        self.assertGreater(outcomes.count(False), 10)


def size_of(matrix):
    """Return the number of clauses of a matrix."""
    if matrix[0] not in ("and", "or"):
        return 0 if matrix == TRUE else 1
    first, second = size_of(matrix[1]), size_of(matrix[2])
    return first + second if matrix[0] == "and" else first * second


if __name__ == "__main__":
    unittest.main()
