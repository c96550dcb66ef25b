"""Points 3 and 32 to 36: structures and what holds in them."""

import itertools
import unittest

from elenchus.errors import InvalidStructure, MissingVariable
from elenchus.formulas import Signature, formula_signature
from elenchus.reader import read_clause, read_formula
from elenchus.structures import Structure, assignments, clause_holds, counterexample, formula_holds

TRUE = ("true",)


def successor():
    """Return a structure with three elements and a function that goes round."""
    functions = {"s": {(0,): 1, (1,): 2, (2,): 0}, "a": {(): 0}, "g": {(0, 1): 2, (1, 0): 1}}
    return Structure(3, functions, {"p": {(0,): True, (1,): False}, "q": {(): True}, "r": {(0, 1): True}})


class Tables(unittest.TestCase):
    """Point 32."""

    def test_the_example(self):
        structure = Structure(2, {"f": {(0,): 1}}, {"p": {(1,): True}})
        self.assertEqual(structure.value(("f", ("f", 5)), {5: 0}), 0)
        self.assertEqual(counterexample(structure, ((True, 3, ("f", 4)),)), {3: 0, 4: 0})
        with self.assertRaises(InvalidStructure):
            Structure(2, {"a": {(): 2}}, {})

    def test_size(self):
        self.assertEqual(Structure(1, {}, {}).size, 1)
        self.assertEqual(successor().size, 3)

    def test_missing_entries_and_symbols(self):
        structure = Structure(2, {"f": {(1,): 1}}, {"p": {(1,): True}})
        self.assertEqual(structure.value(("f", 0), {0: 1}), 1)
        self.assertEqual(structure.value(("f", 0), {0: 0}), 0)
        self.assertEqual(structure.value(("g", 0, 0), {0: 1}), 0)
        self.assertEqual(structure.value(("c",), {}), 0)
        self.assertIs(structure.literal_holds((True, ("p", 0), TRUE), {0: 1}), True)
        self.assertIs(structure.literal_holds((True, ("p", 0), TRUE), {0: 0}), False)
        self.assertIs(structure.literal_holds((True, ("q",), TRUE), {}), False)
        self.assertIs(structure.literal_holds((False, ("q",), TRUE), {}), True)

    def test_symbols_with_an_empty_dict(self):
        structure = Structure(2, {"f": {}, "g": {(0,): 0}}, {"p": {}, "q": {(): False}})
        self.assertEqual(structure.functions(), {"g": {(0,): 0}})
        self.assertEqual(structure.predicates(), {"q": {(): False}})

    def test_wrong_sizes(self):
        for size in [0, -1, True, False, "2", None, (1,)]:
            with self.subTest(size=size), self.assertRaises(InvalidStructure) as caught:
                Structure(size, {}, {})
            self.assertIsInstance(caught.exception.reason, str)

    def test_wrong_keys(self):
        for key in [(2,), (-1,), (True,), (False,), (0, 2), ("0",), (None,), ((0,),), 0, "0", (0, True)]:
            with self.subTest(key=key):
                with self.assertRaises(InvalidStructure):
                    Structure(2, {"f": {key: 0}}, {})
                with self.assertRaises(InvalidStructure):
                    Structure(2, {}, {"p": {key: True}})
                with self.assertRaises(InvalidStructure):
                    Structure(2, {"a": {(): 1}, "f": {(1, 1): 0, key: 0}}, {})

    def test_wrong_values(self):
        for value in [2, -1, True, False, None, "0", (0,)]:
            with self.subTest(value=value), self.assertRaises(InvalidStructure):
                Structure(2, {"f": {(0,): 0, (1,): value}}, {})
        for value in [0, 1, None, "True", ()]:
            with self.subTest(value=value), self.assertRaises(InvalidStructure):
                Structure(2, {}, {"p": {(0,): True, (1,): value}})

    def test_the_tables_are_copied(self):
        functions, predicates = {"f": {(0,): 1}}, {"p": {(0,): True}}
        structure = Structure(2, functions, predicates)
        functions["f"][(0,)] = 0
        functions["g"] = {(): 1}
        predicates["p"][(1,)] = True
        self.assertEqual(structure.functions(), {"f": {(0,): 1}})
        self.assertEqual(structure.predicates(), {"p": {(0,): True}})
        structure.functions()["f"][(0,)] = 0
        structure.functions().clear()
        structure.predicates()["p"].clear()
        self.assertEqual(structure.functions(), {"f": {(0,): 1}})
        self.assertEqual(structure.predicates(), {"p": {(0,): True}})


class Literals(unittest.TestCase):
    """Points 33 and 35."""

    def test_values(self):
        structure = successor()
        self.assertEqual(structure.value("X", {"X": 2}), 2)
        self.assertEqual(structure.value(0, {0: 1}), 1)
        self.assertEqual(structure.value(("s", ("s", "X")), {"X": 2}), 1)
        self.assertEqual(structure.value(("g", ("a",), ("s", ("a",))), {}), 2)
        self.assertEqual(structure.value(("g", ("s", ("a",)), ("a",)), {}), 1)

    def test_equations(self):
        structure = successor()
        self.assertIs(structure.literal_holds((True, ("s", 0), 1), {0: 1, 1: 2}), True)
        self.assertIs(structure.literal_holds((True, ("s", 0), 1), {0: 1, 1: 1}), False)
        self.assertIs(structure.literal_holds((False, ("s", 0), 1), {0: 1, 1: 2}), False)
        self.assertIs(structure.literal_holds((False, ("s", 0), 1), {0: 1, 1: 1}), True)

    def test_atoms(self):
        structure = successor()
        self.assertIs(structure.literal_holds((True, ("p", ("s", 0)), TRUE), {0: 2}), True)
        self.assertIs(structure.literal_holds((True, ("p", ("s", 0)), TRUE), {0: 0}), False)
        self.assertIs(structure.literal_holds((False, ("p", ("s", 0)), TRUE), {0: 2}), False)
        self.assertIs(structure.literal_holds((False, ("p", ("s", 0)), TRUE), {0: 0}), True)
        self.assertIs(structure.literal_holds((True, ("r", 0, 1), TRUE), {0: 0, 1: 1}), True)
        self.assertIs(structure.literal_holds((True, ("r", 0, 1), TRUE), {0: 1, 1: 0}), False)

    def test_true_is_true(self):
        for structure in [successor(), Structure(1, {}, {})]:
            self.assertIs(structure.literal_holds((True, TRUE, TRUE), {}), True)
            self.assertIs(structure.literal_holds((False, TRUE, TRUE), {}), False)

    def test_a_function_with_the_symbol_of_a_predicate_does_not_count(self):
        structure = Structure(2, {"p": {(): 1}}, {"a": {(): True}})
        self.assertIs(structure.literal_holds((True, ("p",), TRUE), {}), False)
        self.assertEqual(structure.value(("a",), {}), 0)

    def test_missing_variables(self):
        structure = successor()
        cases = [((True, "X", "Y"), "X"), ((True, ("a",), "Y"), "Y"), ((False, ("g", "Z", "Y"), "X"), "Z"),
                 ((True, ("p", "X"), TRUE), "X"), ((False, ("r", ("a",), ("s", "W")), TRUE), "W"),
                 ((True, ("none", "A", "B"), TRUE), "A"), ((True, ("none", "A"), "B"), "A")]
        for literal, variable in cases:
            with self.subTest(literal=literal), self.assertRaises(MissingVariable) as caught:
                structure.literal_holds(literal, {})
            self.assertEqual(caught.exception.variable, variable)
        for term, variable in [(0, 0), (("s", ("g", ("a",), 3)), 3), (("g", 2, 1), 2)]:
            with self.subTest(term=term), self.assertRaises(MissingVariable) as caught:
                structure.value(term, {4: 0})
            self.assertEqual(caught.exception.variable, variable)

    def test_both_sides_and_all_arguments_are_evaluated(self):
        structure = Structure(1, {}, {})
        for literal in [(True, ("a",), 0), (False, ("a",), 0), (True, ("p", ("a",), 0), TRUE)]:
            with self.assertRaises(MissingVariable):
                structure.literal_holds(literal, {})
        with self.assertRaises(MissingVariable):
            structure.value(("f", ("a",), 0), {})

    def test_the_assignment_stays(self):
        assignment = {0: 1}
        successor().literal_holds((True, ("s", 0), 0), assignment)
        successor().formula_holds_at(("all", "X", ("some", "Y", ("equal", "X", "Y"))), assignment)
        self.assertEqual(assignment, {0: 1})


class Formulas(unittest.TestCase):
    """Points 34 and 35."""

    def holds(self, formula, assignment):
        return successor().formula_holds_at(formula, assignment)

    def test_clauses(self):
        structure = successor()
        clause = read_clause("p(X0) | s(X0) = X1")
        values = [structure.clause_holds_at(clause, assignment) for assignment in assignments([0, 1], 3)]
        self.assertEqual(values, [True, True, True, False, False, True, True, False, False])
        self.assertIs(structure.clause_holds_at((), {}), False)

    def test_clauses_are_evaluated_until_a_literal_holds(self):
        structure = successor()
        self.assertIs(structure.clause_holds_at(read_clause("q | X0 = X1"), {}), True)
        with self.assertRaises(MissingVariable) as caught:
            structure.clause_holds_at(read_clause("~q | X3 = X1"), {})
        self.assertEqual(caught.exception.variable, 3)

    def test_connectives(self):
        true, false = ("true",), ("false",)
        tables = {"and": (True, False, False, False), "or": (True, True, True, False),
                  "implies": (True, False, True, True), "iff": (True, False, False, True)}
        for kind, expected in tables.items():
            pairs = [(true, true), (true, false), (false, true), (false, false)]
            for (first, second), result in zip(pairs, expected):
                self.assertIs(self.holds((kind, first, second), {}), result, (kind, first, second))
        self.assertIs(self.holds(true, {}), True)
        self.assertIs(self.holds(false, {}), False)
        self.assertIs(self.holds(("not", true), {}), False)
        self.assertIs(self.holds(("not", false), {}), True)

    def test_evaluation_ends_when_the_result_is_certain(self):
        missing = ("equal", "M", "M")
        true, false = ("true",), ("false",)
        self.assertIs(self.holds(("and", false, missing), {}), False)
        self.assertIs(self.holds(("or", true, missing), {}), True)
        self.assertIs(self.holds(("implies", false, missing), {}), True)
        for formula in [("and", true, missing), ("or", false, missing), ("implies", true, missing),
                        ("iff", true, missing), ("iff", false, missing), ("and", missing, false),
                        ("or", missing, true), ("implies", missing, true), ("iff", missing, true), ("not", missing)]:
            with self.subTest(formula=formula), self.assertRaises(MissingVariable) as caught:
                self.holds(formula, {})
            self.assertEqual(caught.exception.variable, "M")

    def test_elements_are_tried_in_ascending_order(self):
        missing = ("equal", "M", "M")
        first = ("equal", "X", ("a",))
        second = ("equal", "X", ("s", ("a",)))
        self.assertIs(self.holds(("some", "X", ("or", first, missing)), {}), True)
        self.assertIs(self.holds(("all", "X", ("and", ("not", first), missing)), {}), False)
        for formula in [("some", "X", ("or", second, missing)), ("all", "X", ("implies", first, missing)),
                        ("all", "X", ("and", ("not", second), missing))]:
            with self.subTest(formula=formula), self.assertRaises(MissingVariable):
                self.holds(formula, {})

    def test_quantifiers(self):
        self.assertIs(self.holds(read_formula("all X: some Y: s(Y) = X"), {}), True)
        self.assertIs(self.holds(read_formula("some Y: all X: s(Y) = X"), {}), False)
        self.assertIs(self.holds(read_formula("some X: p(X)"), {}), True)
        self.assertIs(self.holds(read_formula("all X: p(X)"), {}), False)
        self.assertIs(self.holds(read_formula("some X: ~p(X) & ~p(s(X))"), {}), True)
        self.assertIs(self.holds(read_formula("all X: s(s(s(X))) = X"), {}), True)
        self.assertIs(self.holds(read_formula("some X: s(X) = X"), {}), False)

    def test_a_quantifier_hides_the_value_of_the_assignment(self):
        x_is_a = ("equal", "X", ("a",))
        self.assertIs(self.holds(("some", "X", x_is_a), {"X": 2}), True)
        self.assertIs(self.holds(("all", "X", x_is_a), {"X": 0}), False)
        self.assertIs(self.holds(("and", ("some", "X", ("not", x_is_a)), x_is_a), {"X": 0}), True)
        self.assertIs(self.holds(("and", ("some", "X", x_is_a), x_is_a), {"X": 1}), False)
        self.assertIs(self.holds(("all", "X", ("some", "X", x_is_a)), {}), True)

    def test_what_holds_in_the_structure(self):
        structure = successor()
        self.assertIs(clause_holds(structure, read_clause("s(s(s(X0))) = X0")), True)
        self.assertIs(clause_holds(structure, read_clause("p(X0) | ~p(X1)")), False)
        self.assertIs(clause_holds(structure, ()), False)
        self.assertIs(clause_holds(structure, read_clause("q")), True)
        self.assertIs(clause_holds(structure, read_clause("p(X0) | s(X1) != X1")), True)
        self.assertIs(formula_holds(structure, ("equal", ("s", ("s", ("s", "X"))), "X")), True)
        self.assertIs(formula_holds(structure, ("equal", ("p", "X"), TRUE)), False)
        self.assertIs(formula_holds(structure, ("not", ("equal", ("p", "X"), TRUE))), False)
        self.assertIs(formula_holds(structure, ("some", "Y", ("equal", ("s", "X"), "Y"))), True)
        self.assertIs(formula_holds(structure, ("equal", ("g", "X", "Y"), ("g", "Y", "X"))), False)

    def test_the_empty_clause_holds_in_no_structure(self):
        self.assertEqual(counterexample(Structure(1, {}, {}), ()), {})

    def test_counterexamples(self):
        structure = successor()
        self.assertIsNone(counterexample(structure, read_clause("s(s(s(X0))) = X0")))
        self.assertEqual(counterexample(structure, read_clause("p(X0)")), {0: 1})
        found = counterexample(structure, read_clause("X5 != X2 | s(X2) != X5 | q"))
        self.assertIsNone(found)
        found = counterexample(structure, read_clause("s(X5) != X2 | ~p(X5)"))
        self.assertEqual(list(found.items()), [(5, 0), (2, 1)])
        found = counterexample(structure, read_clause("X2 = X5 | X5 = X2 | p(X2)"))
        self.assertEqual(list(found.items()), [(2, 1), (5, 0)])
        self.assertEqual(counterexample(structure, read_clause("~q")), {})


class Assignments(unittest.TestCase):
    def test_the_order(self):
        self.assertEqual(list(assignments(["X", "Y"], 2)),
                         [{"X": 0, "Y": 0}, {"X": 0, "Y": 1}, {"X": 1, "Y": 0}, {"X": 1, "Y": 1}])
        expected = [dict(zip([3, 0, 1], row)) for row in itertools.product(range(3), repeat=3)]
        self.assertEqual(list(assignments([3, 0, 1], 3)), expected)

    def test_the_empty_list(self):
        self.assertEqual(list(assignments([], 3)), [{}])

    def test_one_element(self):
        self.assertEqual(list(assignments([4, 2], 1)), [{4: 0, 2: 0}])

    def test_it_is_a_generator(self):
        found = assignments(list(range(100)), 2)
        self.assertEqual(next(found), {variable: 0 for variable in range(100)})
        self.assertEqual(next(found)[99], 1)

    def test_each_dict_is_new(self):
        names = ["X"]
        for assignment in assignments(names, 2):
            assignment["Y"] = 5
        self.assertEqual(list(assignments(names, 2)), [{"X": 0}, {"X": 1}])
        self.assertEqual(names, ["X"])


class OtherStructures(unittest.TestCase):
    """Point 36, and the equality of structures."""

    def signature(self):
        signature = Signature()
        signature.add_function("s", 1)
        signature.add_function("b", 0)
        signature.add_predicate("p", 1)
        signature.add_predicate("t", 2)
        return signature

    def test_completed(self):
        structure = Structure(2, {"s": {(0,): 1}, "a": {(): 1}}, {"p": {(1,): True}, "q": {(): True}})
        complete = structure.completed(self.signature())
        self.assertEqual(complete.size, 2)
        self.assertEqual(complete.functions(), {"s": {(0,): 1, (1,): 0}, "b": {(): 0}})
        self.assertEqual(complete.predicates(), {
            "p": {(0,): False, (1,): True}, "t": {(0, 0): False, (0, 1): False, (1, 0): False, (1, 1): False}})
        self.assertEqual(structure.functions(), {"s": {(0,): 1}, "a": {(): 1}})

    def test_completed_for_the_empty_signature(self):
        self.assertEqual(successor().completed(Signature()), Structure(3, {}, {}))

    def test_renamed(self):
        structure = Structure(3, {"s": {(0,): 1, (1,): 2}, "a": {(): 1}}, {"p": {(1,): True}, "t": {(0, 2): True}})
        renamed = structure.renamed(self.signature(), [2, 0, 1])
        self.assertEqual(renamed.functions(), {"s": {(2,): 0, (0,): 1, (1,): 2}, "b": {(): 2}})
        self.assertEqual(renamed.predicates()["p"], {(2,): False, (0,): True, (1,): False})
        self.assertEqual([row for row, value in renamed.predicates()["t"].items() if value], [(2, 1)])
        self.assertEqual(len(renamed.predicates()["t"]), 9)
        self.assertEqual(structure.functions(), {"s": {(0,): 1, (1,): 2}, "a": {(): 1}})

    def test_renaming_nothing(self):
        structure = successor()
        signature = self.signature()
        self.assertEqual(structure.renamed(signature, [0, 1, 2]), structure.completed(signature))

    def test_what_holds_is_kept(self):
        formulas = [read_formula(text) for text in [
            "all X: s(s(s(X))) = X", "some X: p(X) & ~p(s(X))", "p(a)", "all X, Y: g(X, Y) = g(Y, X)",
            "some X: r(X, s(X))", "g(a, s(a)) = s(s(a))", "all X: p(X) -> X = a"]]
        signature = formula_signature(formulas)
        structure = successor()
        for permutation in itertools.permutations(range(3)):
            renamed = structure.renamed(signature, list(permutation))
            for formula in formulas:
                self.assertIs(formula_holds(renamed, formula), formula_holds(structure, formula))

    def test_equality(self):
        self.assertEqual(successor(), successor())
        structure = Structure(2, {"f": {(0,): 1}}, {"p": {(0,): True}})
        self.assertEqual(structure, Structure(2, {"f": {(0,): 1}, "g": {}}, {"p": {(0,): True}, "q": {}}))
        for other in [Structure(3, {"f": {(0,): 1}}, {"p": {(0,): True}}),
                      Structure(2, {"f": {(0,): 0}}, {"p": {(0,): True}}),
                      Structure(2, {"f": {(0,): 1, (1,): 0}}, {"p": {(0,): True}}),
                      Structure(2, {"f": {(0,): 1}}, {"p": {(0,): False}}),
                      Structure(2, {"f": {(0,): 1}}, {}), Structure(2, {}, {"p": {(0,): True}})]:
            self.assertIs(structure == other, False)
            self.assertIs(structure != other, True)
        self.assertIs(structure == 2, False)


if __name__ == "__main__":
    unittest.main()
