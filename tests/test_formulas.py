"""Points 3 and 28 to 31: signatures, free variables and literals."""

import unittest

from elenchus.errors import ArityError, KindError, TooLarge, UnknownSymbol
from elenchus.formulas import Signature, clause_signature, formula_literals, formula_signature, free_variables
from elenchus.reader import read_clause, read_formula

TRUE = ("true",)


class Signatures(unittest.TestCase):
    """Point 30."""

    def test_an_empty_signature(self):
        signature = Signature()
        self.assertEqual(signature.functions(), [])
        self.assertEqual(signature.predicates(), [])
        self.assertEqual(len(signature), 0)
        self.assertNotIn("f", signature)

    def test_the_order_in_which_symbols_are_added(self):
        signature = Signature()
        for symbol, arity in [("g", 2), ("a", 0), ("f", 1)]:
            self.assertIsNone(signature.add_function(symbol, arity))
        for symbol, arity in [("q", 1), ("p", 8)]:
            self.assertIsNone(signature.add_predicate(symbol, arity))
        signature.add_function("b", 0)
        self.assertEqual(signature.functions(), [("g", 2), ("a", 0), ("f", 1), ("b", 0)])
        self.assertEqual(signature.predicates(), [("q", 1), ("p", 8)])
        self.assertEqual(len(signature), 6)

    def test_questions_about_symbols(self):
        signature = Signature()
        signature.add_function("f", 2)
        signature.add_predicate("p", 0)
        self.assertEqual(signature.arity("f"), 2)
        self.assertEqual(signature.arity("p"), 0)
        self.assertIs(signature.is_predicate("f"), False)
        self.assertIs(signature.is_predicate("p"), True)
        self.assertIs("f" in signature, True)
        self.assertIs("p" in signature, True)
        self.assertIs("g" in signature, False)
        for question in [signature.arity, signature.is_predicate]:
            with self.assertRaises(UnknownSymbol) as caught:
                question("g")
            self.assertEqual(caught.exception.symbol, "g")

    def test_the_same_symbol_again(self):
        signature = Signature()
        signature.add_function("f", 1)
        signature.add_predicate("p", 2)
        signature.add_function("g", 0)
        signature.add_function("f", 1)
        signature.add_predicate("p", 2)
        self.assertEqual(signature.functions(), [("f", 1), ("g", 0)])
        self.assertEqual(signature.predicates(), [("p", 2)])
        self.assertEqual(len(signature), 3)

    def test_another_kind(self):
        signature = Signature()
        signature.add_function("f", 1)
        signature.add_predicate("p", 0)
        for add, symbol, arity in [(signature.add_predicate, "f", 1), (signature.add_predicate, "f", 2),
                                   (signature.add_function, "p", 0), (signature.add_function, "p", 1)]:
            with self.assertRaises(KindError) as caught:
                add(symbol, arity)
            self.assertEqual(caught.exception.symbol, symbol)

    def test_another_arity(self):
        signature = Signature()
        signature.add_function("f", 1)
        signature.add_predicate("p", 0)
        for add, symbol, expected, found in [(signature.add_function, "f", 1, 0), (signature.add_function, "f", 1, 8),
                                             (signature.add_predicate, "p", 0, 1)]:
            with self.assertRaises(ArityError) as caught:
                add(symbol, found)
            error = caught.exception
            self.assertEqual((error.symbol, error.expected, error.found), (symbol, expected, found))

    def test_arities_of_8_and_9(self):
        signature = Signature()
        signature.add_function("f", 8)
        signature.add_predicate("p", 8)
        for add in [signature.add_function, signature.add_predicate]:
            for symbol in ["f", "p", "g"]:
                with self.assertRaises(TooLarge) as caught:
                    add(symbol, 9)
                self.assertIsInstance(caught.exception.limit, str)
        self.assertEqual(len(signature), 2)

    def test_the_symbol_of_true_is_in_no_signature(self):
        signature = Signature()
        signature.add_function("true", 0)
        signature.add_predicate("true", 0)
        self.assertNotIn("true", signature)
        self.assertEqual(len(signature), 0)

    def test_lists_are_new(self):
        signature = Signature()
        signature.add_function("f", 1)
        signature.add_predicate("p", 0)
        signature.functions().append(("g", 1))
        signature.predicates().clear()
        self.assertEqual(signature.functions(), [("f", 1)])
        self.assertEqual(signature.predicates(), [("p", 0)])


class SignaturesOfFormulas(unittest.TestCase):
    """Points 28 and 31."""

    def test_symbols_in_the_order_of_their_first_occurrence(self):
        formulas = [read_formula("all X: p(g(X, a), b) -> f(b) = c & q"), read_formula("~d != h(a)")]
        signature = formula_signature(formulas)
        self.assertEqual(signature.functions(),
                         [("g", 2), ("a", 0), ("b", 0), ("f", 1), ("c", 0), ("d", 0), ("h", 1)])
        self.assertEqual(signature.predicates(), [("p", 2), ("q", 0)])

    def test_every_kind_of_formula(self):
        text = "true & (a = b -> ~p <-> false) | (all X: q(X)) & ~some Y: c != Y"
        signature = formula_signature([read_formula(text)])
        self.assertEqual(signature.functions(), [("a", 0), ("b", 0), ("c", 0)])
        self.assertEqual(signature.predicates(), [("p", 0), ("q", 1)])

    def test_clauses(self):
        clauses = [read_clause("~p(f(X0, b), a) | X1 = g(c)"), (), read_clause("true | ~true | q | a != d")]
        signature = clause_signature(clauses)
        self.assertEqual(signature.functions(), [("f", 2), ("b", 0), ("a", 0), ("g", 1), ("c", 0), ("d", 0)])
        self.assertEqual(signature.predicates(), [("p", 2), ("q", 0)])
        self.assertNotIn("true", signature)

    def test_nothing(self):
        self.assertEqual(len(formula_signature([])), 0)
        self.assertEqual(len(clause_signature([])), 0)
        self.assertEqual(len(clause_signature([()])), 0)

    def test_a_new_signature_each_time(self):
        formulas = [read_formula("p")]
        formula_signature(formulas).add_function("f", 1)
        self.assertEqual(len(formula_signature(formulas)), 1)

    def test_kinds(self):
        for texts in [["p & p = a"], ["p", "f(p) = a"], ["p(p)"], ["a = p(a)", "p(a)"]]:
            with self.subTest(texts=texts), self.assertRaises(KindError):
                formula_signature([read_formula(text) for text in texts])
        with self.assertRaises(KindError):
            clause_signature([read_clause("p(X0) | f(X1) = X1"), read_clause("f(X0)")])

    def test_arities(self):
        with self.assertRaises(ArityError) as caught:
            formula_signature([read_formula("f(a) = f(a, b)")])
        error = caught.exception
        self.assertEqual((error.symbol, error.expected, error.found), ("f", 1, 2))
        with self.assertRaises(ArityError):
            clause_signature([read_clause("p(X0)"), read_clause("~p")])
        with self.assertRaises(TooLarge):
            clause_signature([((True, ("p", *range(9)), TRUE),)])
        with self.assertRaises(TooLarge):
            formula_signature([("equal", ("f", *"ABCDEFGHI"), "A")])


class FreeVariables(unittest.TestCase):
    """Point 29."""

    def test_the_example(self):
        formula = ("some", "Y", ("equal", ("f", "Z", "X"), "Y"))
        self.assertEqual(free_variables(formula), ["X", "Z"])
        self.assertEqual(formula_literals(("not", formula)), [(True, ("f", "Z", "X"), "Y")])

    def test_ascending_order_without_duplicates(self):
        formula = ("and", ("equal", "Z", ("f", "B")), ("or", ("equal", "A", "Z"), ("equal", ("p", "C", "A"), TRUE)))
        self.assertEqual(free_variables(formula), ["A", "B", "C", "Z"])

    def test_every_kind_of_formula(self):
        x, y = ("equal", "X", "X"), ("equal", ("p", "Y"), TRUE)
        for kind in ["and", "or", "implies", "iff"]:
            self.assertEqual(free_variables((kind, y, x)), ["X", "Y"])
        self.assertEqual(free_variables(("not", x)), ["X"])
        self.assertEqual(free_variables(("true",)), [])
        self.assertEqual(free_variables(("false",)), [])
        for kind in ["all", "some"]:
            self.assertEqual(free_variables((kind, "X", ("and", x, y))), ["Y"])

    def test_inner_quantifiers_hide(self):
        x = ("equal", "X", "X")
        self.assertEqual(free_variables(("all", "X", ("some", "X", x))), [])
        self.assertEqual(free_variables(("and", ("all", "X", x), x)), ["X"])
        self.assertEqual(free_variables(("and", x, ("all", "X", x))), ["X"])
        self.assertEqual(free_variables(("all", "Y", ("and", ("some", "Y", x), ("equal", "Y", "Y")))), ["X"])

    def test_literals_from_left_to_right(self):
        formula = read_formula("all X: (X = a -> ~p(X)) <-> some Y: true & f(Y) != b | (q <-> false)")
        self.assertEqual(formula_literals(formula), [
            (True, "X", ("a",)), (True, ("p", "X"), TRUE), (True, ("f", "Y"), ("b",)), (True, ("q",), TRUE)])
        self.assertEqual(formula_literals(("true",)), [])

    def test_symbols_with_the_names_of_kinds(self):
        text = "all X: equal(not(X)) & and(X, or) = implies(iff) -> ~not(equal)"
        with self.assertRaises(KindError):
            formula_signature([read_formula(text)])
        formula = read_formula("all X: equal(not(X, X)) & and(X, or) = implies(iff(equals)) -> ~and2")
        signature = formula_signature([formula])
        self.assertEqual(signature.functions(),
                         [("not", 2), ("and", 2), ("or", 0), ("implies", 1), ("iff", 1), ("equals", 0)])
        self.assertEqual(signature.predicates(), [("equal", 1), ("and2", 0)])
        self.assertEqual(free_variables(formula), [])
        self.assertEqual(free_variables(formula[2]), ["X"])
        self.assertEqual(len(formula_literals(formula)), 3)
        literal = ("equal", ("equal", ("equal", "X", "Y"), ("not", "Z")), ("a",))
        self.assertEqual(formula_literals(literal), [(True, *literal[1:])])
        self.assertEqual(free_variables(literal), ["X", "Y", "Z"])

    def test_equal_literals_are_all_listed(self):
        self.assertEqual(len(formula_literals(read_formula("p & p | ~p"))), 3)

    def test_lists_are_new(self):
        formula = ("equal", "X", "Y")
        free_variables(formula).clear()
        formula_literals(formula).clear()
        self.assertEqual(free_variables(formula), ["X", "Y"])
        self.assertEqual(formula_literals(formula), [(True, "X", "Y")])

    def test_100_nested_tuples(self):
        formula = ("equal", "X", "Y")
        for k in range(99):
            formula = ("not", formula) if k % 2 else ("all", "X", formula)
        self.assertEqual(free_variables(formula), ["Y"])
        self.assertEqual(formula_literals(formula), [(True, "X", "Y")])


if __name__ == "__main__":
    unittest.main()
