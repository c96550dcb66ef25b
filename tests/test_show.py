"""Points 8 to 10: the written form."""

import unittest

from elenchus.reader import read_formula
from elenchus.show import show_clause, show_formula, show_literal, show_term

TRUE = ("true",)
P = ("equal", ("p",), TRUE)
Q = ("equal", ("q",), TRUE)
EQUATION = ("equal", ("a",), ("b",))


class Terms(unittest.TestCase):
    """Point 8."""

    def test_variables(self):
        self.assertEqual(show_term("X"), "X")
        self.assertEqual(show_term("Abc_1"), "Abc_1")
        self.assertEqual(show_term(0), "X0")
        self.assertEqual(show_term(12), "X12")

    def test_variables_of_many_digits(self):
        for digits in (4299, 4300, 4301, 9000):
            self.assertTrue(show_term(10 ** digits) == "X1" + "0" * digits)
            self.assertTrue(show_term(10 ** digits - 1) == "X" + "9" * digits)
            self.assertTrue(show_term(("f", ("g", 10 ** digits), 1)) == "f(g(X1" + "0" * digits + "),X1)")

    def test_constants(self):
        self.assertEqual(show_term(("a",)), "a")
        self.assertEqual(show_term(TRUE), "true")

    def test_applications(self):
        self.assertEqual(show_term(("f", 0, ("a",))), "f(X0,a)")
        self.assertEqual(show_term(("f", "X", ("g", ("h", "Y")), 3)), "f(X,g(h(Y)),X3)")


class Clauses(unittest.TestCase):
    """Point 9."""

    def test_atoms(self):
        self.assertEqual(show_literal((True, ("p", 0), TRUE)), "p(X0)")
        self.assertEqual(show_literal((False, ("p", 0), TRUE)), "~p(X0)")
        self.assertEqual(show_literal((True, ("p",), TRUE)), "p")

    def test_true_is_not_true(self):
        self.assertEqual(show_literal((True, TRUE, TRUE)), "true")
        self.assertEqual(show_literal((False, TRUE, TRUE)), "~true")

    def test_equations(self):
        self.assertEqual(show_literal((True, ("a",), 1)), "a = X1")
        self.assertEqual(show_literal((False, 1, ("f", 0))), "X1 != f(X0)")

    def test_the_example(self):
        self.assertEqual(show_clause(((False, ("p", 0), TRUE), (True, ("f", 0, ("a",)), 1))),
                         "~p(X0) | f(X0,a) = X1")

    def test_clauses(self):
        self.assertEqual(show_clause(()), "false")
        self.assertEqual(show_clause(((True, ("p",), TRUE),)), "p")
        self.assertEqual(show_clause(((True, TRUE, TRUE), (False, TRUE, TRUE), (False, 0, 1))),
                         "true | ~true | X0 != X1")


    def test_variables_of_many_digits(self):
        name = "X1" + "0" * 4300
        self.assertTrue(show_literal((True, 10 ** 4300, ("a",))) == name + " = a")
        self.assertTrue(show_literal((False, ("p", 10 ** 4300), TRUE)) == "~p(" + name + ")")
        self.assertTrue(show_clause(((True, ("p",), TRUE), (False, 0, 10 ** 4300))) == "p | X0 != " + name)


class Formulas(unittest.TestCase):
    """Point 10."""

    def check(self, formula, text):
        self.assertEqual(show_formula(formula), text)
        self.assertEqual(read_formula(text), formula)

    def test_the_example(self):
        formula = ("all", "X", ("implies", ("equal", ("p", "X"), TRUE), ("not", ("equal", "X", ("a",)))))
        self.check(formula, "(all X: (p(X) -> X != a))")

    def test_constants_and_literals(self):
        self.check(("true",), "true")
        self.check(("false",), "false")
        self.check(P, "p")
        self.check(EQUATION, "a = b")

    def test_negations(self):
        self.check(("not", P), "~p")
        self.check(("not", EQUATION), "a != b")
        self.check(("not", ("not", P)), "~~p")
        self.check(("not", ("not", EQUATION)), "~a != b")
        self.check(("not", ("not", ("not", EQUATION))), "~~a != b")
        self.check(("not", ("true",)), "~true")
        self.check(("not", ("false",)), "~false")
        self.check(("not", ("and", P, Q)), "~(p & q)")
        self.check(("not", ("some", "X", P)), "~(some X: p)")

    def test_connectives(self):
        self.check(("and", P, Q), "(p & q)")
        self.check(("or", P, Q), "(p | q)")
        self.check(("implies", P, Q), "(p -> q)")
        self.check(("iff", P, Q), "(p <-> q)")

    def test_quantifiers(self):
        self.check(("all", "X", ("equal", "X", "X")), "(all X: X = X)")
        self.check(("some", "X", ("all", "Y", ("not", ("equal", "X", "Y")))), "(some X: (all Y: X != Y))")

    def test_all_connectives_within_one_another(self):
        kinds = ["and", "or", "implies", "iff"]
        for outer in kinds:
            for inner in kinds:
                for formula in [(outer, (inner, P, Q), EQUATION), (outer, P, (inner, EQUATION, Q)),
                                ("not", (outer, ("not", (inner, P, Q)), ("not", EQUATION))),
                                (outer, ("all", "X", (inner, P, Q)), ("some", "Y", (inner, Q, P)))]:
                    with self.subTest(formula=formula):
                        self.assertEqual(read_formula(show_formula(formula)), formula)

    def test_symbols_with_the_names_of_kinds(self):
        self.check(("not", ("equal", ("equal", ("not", ("all2",))), TRUE)), "~equal(not(all2))")
        self.check(("equal", ("and", ("or",), ("iff",)), ("implies",)), "and(or,iff) = implies")

    def test_a_nested_formula(self):
        formula = ("iff", ("or", P, ("and", Q, P)), ("implies", ("not", Q), ("all", "X", ("or", P, Q))))
        self.check(formula, "((p | (q & p)) <-> (~q -> (all X: (p | q))))")


if __name__ == "__main__":
    unittest.main()
