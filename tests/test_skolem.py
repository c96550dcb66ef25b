"""Points 38 to 41: closures, renaming, Skolem functions and their tables."""

import random
import unittest

from elenchus.errors import TooLarge
from elenchus.formulas import free_variables
from elenchus.negation import negation_normal
from elenchus.reader import read_formula
from elenchus.skolem import Skolemization, close, rename_bound, skolem_tables, skolemize
from elenchus.structures import Structure, formula_holds

TRUE = ("true",)


def atom(symbol, *arguments):
    return ("equal", (symbol, *arguments), TRUE)


def quantified(quantifiers, body):
    """Return the body under quantifiers, given as pairs from outside to inside."""
    for kind, name in reversed(quantifiers):
        body = (kind, name, body)
    return body


class Closures(unittest.TestCase):
    """Point 38."""

    def test_a_closed_formula(self):
        for formula in [atom("p"), ("true",), ("all", "X", atom("p", "X"))]:
            self.assertEqual(close(formula), formula)

    def test_the_order_of_the_first_free_occurrence(self):
        formula = ("and", ("equal", ("f", "Z", "B"), "A"), atom("p", "C", "Z"))
        self.assertEqual(close(formula),
                         quantified([("all", "Z"), ("all", "B"), ("all", "A"), ("all", "C")], formula))

    def test_bound_occurrences_do_not_count(self):
        formula = ("or", ("some", "X", ("equal", "X", "Y")), ("equal", "Z", "X"))
        self.assertEqual(close(formula), quantified([("all", "Y"), ("all", "Z"), ("all", "X")], formula))
        formula = ("implies", ("all", "X", ("equal", "Y", "X")), ("equal", "X", "Y"))
        self.assertEqual(close(formula), quantified([("all", "Y"), ("all", "X")], formula))


class Renaming(unittest.TestCase):
    """Point 39."""

    def test_quantifiers_are_numbered_from_left_to_right(self):
        formula = read_formula("(all X: some Y: q(X, Y)) & (some Z: p(Z)) & all X: p(X)")
        self.assertEqual(rename_bound(formula), (
            "and", ("and", ("all", "V1", ("some", "V2", atom("q", "V1", "V2"))), ("some", "V3", atom("p", "V3"))),
            ("all", "V4", atom("p", "V4"))))

    def test_an_outer_quantifier_comes_before_inner_ones(self):
        formula = read_formula("all A: (all B: q(A, B)) | (some C: q(C, A)) -> some D: ~q(A, D)")
        self.assertEqual(rename_bound(formula), (
            "all", "V1", (
                "implies", ("or", ("all", "V2", atom("q", "V1", "V2")), ("some", "V3", atom("q", "V3", "V1"))),
                ("some", "V4", ("not", atom("q", "V1", "V4"))))))

    def test_quantifiers_that_hide_one_another(self):
        formula = read_formula("all X: p(X) & (some X: p(X) & (all X: p(X)) & X = X) & p(f(X))")
        self.assertEqual(rename_bound(formula), (
            "all", "V1", (
                "and", ("and", atom("p", "V1"), (
                    "some", "V2", ("and", ("and", atom("p", "V2"), ("all", "V3", atom("p", "V3"))),
                                   ("equal", "V2", "V2")))),
                atom("p", ("f", "V1")))))
        self.assertEqual(rename_bound(("all", "X", ("all", "X", ("equal", "X", ("f", "X"))))),
                         ("all", "V1", ("all", "V2", ("equal", "V2", ("f", "V2")))))

    def test_names_that_look_like_new_ones(self):
        formula = ("all", "V2", ("some", "V1", ("equal", ("f", "V1", "V2"), ("g", "V2", "V1"))))
        self.assertEqual(rename_bound(formula),
                         ("all", "V1", ("some", "V2", ("equal", ("f", "V2", "V1"), ("g", "V1", "V2")))))

    def test_every_kind_of_formula(self):
        formula = ("iff", ("not", ("all", "X", ("or", ("true",), ("equal", "X", "X")))), ("implies", ("false",), (
            "some", "X", ("and", ("equal", "X", ("a",)), atom("p", "X")))))
        self.assertEqual(rename_bound(formula), (
            "iff", ("not", ("all", "V1", ("or", ("true",), ("equal", "V1", "V1")))), ("implies", ("false",), (
                "some", "V2", ("and", ("equal", "V2", ("a",)), atom("p", "V2"))))))

    def test_no_quantifiers(self):
        self.assertEqual(rename_bound(atom("p", ("a",))), atom("p", ("a",)))


class Skolemizing(unittest.TestCase):
    """Point 40."""

    def test_the_examples(self):
        result = skolemize(("all", "V1", ("some", "V2", ("equal", ("f", "V1"), "V2"))))
        self.assertEqual(result.matrix, ("equal", ("f", "V1"), ("sk1", "V1")))
        self.assertEqual(skolemize(("some", "V1", ("equal", "V1", ("a",))), taken=("sk1",)).skolem_symbols, ["sk2"])

    def test_a_formula_without_quantifiers(self):
        result = skolemize(("and", atom("p"), ("not", ("equal", ("a",), ("b",)))))
        self.assertEqual(result.matrix, ("and", atom("p"), ("not", ("equal", ("a",), ("b",)))))
        self.assertEqual(result.records, [])
        self.assertEqual(result.skolem_symbols, [])
        for formula in [("true",), ("false",)]:
            self.assertEqual(skolemize(formula).matrix, formula)

    def test_the_kinds_of_the_fields(self):
        result = skolemize(("some", "V1", atom("p", "V1")))
        self.assertIsInstance(result, Skolemization)
        self.assertIsInstance(result.records, list)
        self.assertEqual(result.records, [("sk1", (), "V1", atom("p", "V1"))])

    def test_symbols_are_numbered_from_left_to_right(self):
        formula = ("and", ("some", "V1", ("and", ("some", "V2", atom("q", "V1", "V2")), atom("p", "V1"))),
                   ("or", ("some", "V3", atom("p", "V3")), ("all", "V4", ("some", "V5", atom("q", "V4", "V5")))))
        result = skolemize(formula)
        self.assertEqual(result.skolem_symbols, ["sk1", "sk2", "sk3", "sk4"])
        self.assertEqual(result.matrix, (
            "and", ("and", atom("q", ("sk1",), ("sk2",)), atom("p", ("sk1",))),
            ("or", atom("p", ("sk3",)), atom("q", "V4", ("sk4", "V4")))))

    def test_universal_variables_outermost_first(self):
        formula = quantified([("all", "V1"), ("all", "V2"), ("some", "V3"), ("all", "V4"), ("some", "V5")],
                             ("equal", ("f", "V3", "V5"), "V4"))
        result = skolemize(formula)
        self.assertEqual(result.matrix, ("equal", ("f", ("sk1", "V1", "V2"), ("sk2", "V1", "V2", "V4")), "V4"))

    def test_universal_quantifiers_beside_do_not_count(self):
        formula = ("and", ("all", "V1", atom("p", "V1")), ("some", "V2", atom("p", "V2")))
        self.assertEqual(skolemize(formula).matrix, ("and", atom("p", "V1"), atom("p", ("sk1",))))

    def test_every_occurrence_is_replaced(self):
        body = ("or", ("not", ("equal", "V1", ("f", "V1"))), ("all", "V2", ("and", atom("p", "V1"), atom("p", "V2"))))
        self.assertEqual(skolemize(("some", "V1", body)).matrix, (
            "or", ("not", ("equal", ("sk1",), ("f", ("sk1",)))), ("and", atom("p", ("sk1",)), atom("p", "V2"))))

    def test_the_records(self):
        formula = quantified([("all", "V1"), ("some", "V2"), ("all", "V3"), ("some", "V4")],
                             ("or", atom("q", "V2", "V4"), ("some", "V5", atom("q", "V5", ("f", "V4", "V3")))))
        records = skolemize(formula).records
        first = ("sk1", "V1")
        second = ("sk2", "V1", "V3")
        self.assertEqual(records, [
            ("sk1", ("V1",), "V2", formula[2][2]),
            ("sk2", ("V1", "V3"), "V4",
             ("or", atom("q", first, "V4"), ("some", "V5", atom("q", "V5", ("f", "V4", "V3"))))),
            ("sk3", ("V1", "V3"), "V5", atom("q", "V5", ("f", second, "V3")))])

    def test_taken_symbols_are_skipped(self):
        formula = quantified([("some", "V1"), ("some", "V2"), ("some", "V3")], atom("r", "V1", "V2", "V3"))
        self.assertEqual(skolemize(formula, taken=["sk2", "sk3", "f", "sk5"]).skolem_symbols, ["sk1", "sk4", "sk6"])
        self.assertEqual(skolemize(formula, taken=("sk3", "sk1", "sk2")).skolem_symbols, ["sk4", "sk5", "sk6"])
        self.assertEqual(skolemize(formula, taken=()).skolem_symbols, ["sk1", "sk2", "sk3"])

    def test_taken_stays(self):
        taken = ["sk1"]
        skolemize(("some", "V1", atom("p", "V1")), taken=taken)
        self.assertEqual(taken, ["sk1"])

    def test_eight_and_nine_universal_quantifiers(self):
        names = tuple(f"V{k}" for k in range(1, 9))
        eight = [("all", name) for name in names]
        result = skolemize(quantified(eight + [("some", "V9")], ("equal", "V9", "V1")))
        self.assertEqual(result.matrix, ("equal", ("sk1", *names), "V1"))
        self.assertEqual(result.records[0][1], names)
        formula = quantified(eight + [("all", "V9"), ("some", "V10")], ("equal", "V10", "V1"))
        with self.assertRaises(TooLarge) as caught:
            skolemize(formula)
        self.assertEqual(caught.exception.limit, "arguments")
        self.assertEqual(skolemize(quantified(eight + [("all", "V9")], atom("p", "V9"))).matrix, atom("p", "V9"))

    def test_the_list_of_symbols_is_new(self):
        result = skolemize(("some", "V1", atom("p", "V1")))
        result.skolem_symbols.clear()
        self.assertEqual(result.skolem_symbols, ["sk1"])

    def test_symbols_with_the_names_of_kinds(self):
        body = ("equal", ("equal", ("equal", "V1", "V2"), ("not", "V2")), ("or", "V1", "V2"))
        formula = quantified([("all", "V1"), ("some", "V2")], ("and", body, ("not", body)))
        self.assertEqual(rename_bound(formula), formula)
        term = ("sk1", "V1")
        matrix = ("equal", ("equal", ("equal", "V1", term), ("not", term)), ("or", "V1", term))
        self.assertEqual(skolemize(formula).matrix, ("and", matrix, ("not", matrix)))

    def test_large_terms(self):
        large = ("f", *["V1"] * 900)
        result = skolemize(quantified([("all", "V2"), ("some", "V1")], atom("p", large)))
        self.assertEqual(result.matrix, atom("p", ("f", *[("sk1", "V2")] * 900)))


class Tables(unittest.TestCase):
    """Point 41."""

    def test_the_least_element(self):
        structure = Structure(3, {}, {"q": {(0, 1): True, (0, 2): True, (2, 2): True}})
        result = skolemize(("all", "V1", ("some", "V2", atom("q", "V1", "V2"))))
        self.assertEqual(skolem_tables(structure, result), {"sk1": {(0,): 1, (1,): 0, (2,): 2}})

    def test_constants(self):
        structure = Structure(3, {}, {"p": {(1,): True, (2,): True}})
        result = skolemize(("and", ("some", "V1", atom("p", "V1")), ("some", "V2", ("not", ("equal", "V2", "V2")))))
        self.assertEqual(skolem_tables(structure, result), {"sk1": {(): 1}, "sk2": {(): 0}})

    def test_tables_of_earlier_records_are_used(self):
        structure = Structure(3, {"s": {(0,): 1, (1,): 2}}, {"p": {(1,): True}})
        formula = ("some", "V1", ("and", atom("p", "V1"), ("all", "V2", ("some", "V3", ("equal", "V3", ("s", "V1"))))))
        self.assertEqual(skolem_tables(structure, skolemize(formula)),
                         {"sk1": {(): 1}, "sk2": {(0,): 2, (1,): 2, (2,): 2}})

    def test_a_table_for_two_arguments(self):
        structure = Structure(2, {"g": {(0, 1): 1, (1, 0): 1}}, {})
        formula = quantified([("all", "V1"), ("all", "V2"), ("some", "V3")], ("equal", "V3", ("g", "V1", "V2")))
        self.assertEqual(skolem_tables(structure, skolemize(formula)),
                         {"sk1": {(0, 0): 0, (0, 1): 1, (1, 0): 1, (1, 1): 0}})

    def test_no_records(self):
        self.assertEqual(skolem_tables(Structure(2, {}, {}), skolemize(atom("p"))), {})

    def test_tables_of_the_structure_with_the_same_symbol_do_not_count(self):
        structure = Structure(2, {"sk1": {(): 0}}, {"p": {(1,): True}, "q": {(1, 1): True}})
        formula = ("some", "V1", ("and", atom("p", "V1"), ("some", "V2", atom("q", "V1", "V2"))))
        self.assertEqual(skolem_tables(structure, skolemize(formula)), {"sk1": {(): 1}, "sk2": {(): 1}})

    def test_the_structure_stays(self):
        structure = Structure(2, {"a": {(): 1}}, {"p": {(1,): True}})
        skolem_tables(structure, skolemize(("all", "V1", ("some", "V2", atom("p", "V2")))))
        self.assertEqual(structure, Structure(2, {"a": {(): 1}}, {"p": {(1,): True}}))

    def test_the_matrix_is_true_exactly_if_the_formula_is(self):
        source = random.Random(41)
        values = []
        for _ in range(300):
            formula = rename_bound(negation_normal(close(random_formula(source, ["X", "Y"], 4))))
            self.assertEqual(free_variables(formula), [])
            structure = random_structure(source)
            result = skolemize(formula)
            tables = skolem_tables(structure, result)
            self.assertEqual(list(tables), result.skolem_symbols)
            for symbol, universal, _, _ in result.records:
                self.assertEqual(len(tables[symbol]), structure.size ** len(universal))
            extended = Structure(structure.size, {**structure.functions(), **tables}, structure.predicates())
            value = formula_holds(structure, formula)
            self.assertIs(formula_holds(extended, result.matrix), value)
            values.append(value)
        self.assertGreater(values.count(True), 50)
        self.assertGreater(values.count(False), 50)


def random_formula(source, names, depth):
    """Return a formula whose free variables are among the names."""
    if depth == 0:
        left, right = source.choice(names), source.choice(names)
        return source.choice([atom("q", left, right), ("equal", ("f", left), right)])
    kind = source.choice(["not", "and", "or", "all", "some", "some", "implies"])
    if kind in ("all", "some"):
        return (kind, source.choice(names), random_formula(source, names, depth - 1))
    if kind == "not":
        return (kind, random_formula(source, names, depth - 1))
    return (kind, random_formula(source, names, source.randrange(depth)), random_formula(source, names, depth - 1))


def random_structure(source):
    """Return a structure with two elements for the formulas above."""
    rows = [(first, second) for first in range(2) for second in range(2)]
    return Structure(2, {"f": {(element,): source.randrange(2) for element in range(2)}},
                     {"q": {row: source.random() < 0.5 for row in rows}})


if __name__ == "__main__":
    unittest.main()
