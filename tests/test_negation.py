"""Point 37: the negation normal form."""

import random
import unittest

from elenchus.errors import TooLarge
from elenchus.formulas import free_variables
from elenchus.negation import negation_normal, normal_size
from elenchus.structures import Structure, assignments

TRUE = ("true",)
P = ("equal", ("p",), TRUE)
Q = ("equal", ("q", "X"), TRUE)
NOT_P = ("not", P)
NOT_Q = ("not", Q)


def count(formula):
    """Return the number of tuples of a formula that stand for formulas."""
    if formula[0] in ("true", "false", "equal"):
        return 1
    return 1 + sum(count(part) for part in formula[1:] if isinstance(part, tuple))


class Rules(unittest.TestCase):
    def check(self, formula, form):
        self.assertEqual(negation_normal(formula), form)
        self.assertEqual(normal_size(formula), count(form))
        self.assertEqual(normal_size(("not", formula), negated=True), count(form))

    def test_the_example(self):
        p = ("equal", ("p",), ("true",))
        self.check(("not", ("all", "X", ("implies", p, ("not", p)))),
                   ("some", "X", ("and", ("equal", ("p",), ("true",)), ("equal", ("p",), ("true",)))))

    def test_literals_and_constants(self):
        equation = ("equal", "X", ("a",))
        self.check(P, P)
        self.check(NOT_P, NOT_P)
        self.check(equation, equation)
        self.check(("not", equation), ("not", equation))
        self.check(("true",), ("true",))
        self.check(("false",), ("false",))
        self.check(("not", ("true",)), ("false",))
        self.check(("not", ("false",)), ("true",))

    def test_double_negations(self):
        self.check(("not", NOT_P), P)
        self.check(("not", ("not", NOT_P)), NOT_P)
        self.check(("not", ("not", ("true",))), ("true",))
        self.check(("not", ("not", ("or", NOT_P, Q))), ("or", NOT_P, Q))

    def test_connectives(self):
        self.check(("and", P, NOT_Q), ("and", P, NOT_Q))
        self.check(("or", P, NOT_Q), ("or", P, NOT_Q))
        self.check(("implies", P, Q), ("or", NOT_P, Q))
        self.check(("implies", NOT_P, NOT_Q), ("or", P, NOT_Q))
        self.check(("iff", P, Q), ("and", ("or", NOT_P, Q), ("or", NOT_Q, P)))

    def test_negated_connectives(self):
        self.check(("not", ("and", P, NOT_Q)), ("or", NOT_P, Q))
        self.check(("not", ("or", P, NOT_Q)), ("and", NOT_P, Q))
        self.check(("not", ("implies", P, Q)), ("and", P, NOT_Q))
        self.check(("not", ("implies", NOT_P, NOT_Q)), ("and", NOT_P, Q))
        self.check(("not", ("iff", P, Q)), ("and", ("or", P, Q), ("or", NOT_P, NOT_Q)))

    def test_quantifiers(self):
        self.check(("all", "X", Q), ("all", "X", Q))
        self.check(("some", "X", NOT_Q), ("some", "X", NOT_Q))
        self.check(("not", ("all", "X", Q)), ("some", "X", NOT_Q))
        self.check(("not", ("some", "X", NOT_Q)), ("all", "X", Q))
        self.check(("not", ("all", "X", ("some", "Y", ("and", P, Q)))),
                   ("some", "X", ("all", "Y", ("or", NOT_P, NOT_Q))))

    def test_forms_within_forms(self):
        self.check(("implies", ("implies", P, Q), ("not", ("implies", Q, P))),
                   ("or", ("and", P, NOT_Q), ("and", Q, NOT_P)))
        self.check(("not", ("iff", ("all", "X", Q), ("not", P))),
                   ("and", ("or", ("all", "X", Q), NOT_P), ("or", ("some", "X", NOT_Q), P)))
        self.check(("iff", P, ("iff", P, P)),
                   ("and", ("or", NOT_P, ("and", ("or", NOT_P, P), ("or", NOT_P, P))),
                    ("or", ("and", ("or", P, P), ("or", NOT_P, NOT_P)), P)))

    def test_the_formula_is_not_changed(self):
        formula = ("not", ("iff", P, Q))
        negation_normal(formula)
        self.assertEqual(formula, ("not", ("iff", ("equal", ("p",), TRUE), ("equal", ("q", "X"), TRUE))))


class Sizes(unittest.TestCase):
    def test_both_sizes(self):
        cases = [(P, 1, 2), (NOT_P, 2, 1), (("true",), 1, 1), (("false",), 1, 1), (("and", P, Q), 3, 5),
                 (("or", P, NOT_Q), 4, 4), (("implies", P, Q), 4, 4), (("implies", NOT_P, Q), 3, 5),
                 (("iff", P, Q), 9, 9), (("iff", P, NOT_P), 9, 9), (("all", "X", Q), 2, 3),
                 (("some", "X", NOT_Q), 3, 2)]
        for formula, plain, negated in cases:
            with self.subTest(formula=formula):
                self.assertEqual(normal_size(formula), plain)
                self.assertEqual(normal_size(formula, negated=True), negated)

    def test_terms_are_not_counted(self):
        self.assertEqual(normal_size(("equal", ("f", ("g", ("a",)), "X"), ("b",))), 1)

    def balanced(self, size):
        """Return a formula whose form has this many tuples, an odd number."""
        formulas = [P] * ((size + 1) // 2)
        while len(formulas) > 1:
            pairs = zip(formulas[0::2], formulas[1::2])
            formulas = [("and", *pair) for pair in pairs] + formulas[len(formulas) // 2 * 2:]
        return formulas[0]

    def test_forms_of_exactly_5000_tuples_and_of_more(self):
        largest = ("not", ("not", ("all", "X", self.balanced(4999))))
        self.assertEqual(normal_size(largest), 5000)
        self.assertEqual(count(negation_normal(largest)), 5000)
        for formula in [("some", "X", largest), self.balanced(5001), ("and", P, largest)]:
            self.assertGreater(normal_size(formula), 5000)
            with self.assertRaises(TooLarge) as caught:
                negation_normal(formula)
            self.assertEqual(caught.exception.limit, "formula")

    def test_the_negation_alone_may_be_too_large(self):
        formula = self.balanced(4001)
        self.assertEqual(count(negation_normal(formula)), 4001)
        self.assertEqual(normal_size(formula, negated=True), 6002)
        with self.assertRaises(TooLarge):
            negation_normal(("not", formula))

    def test_nested_equivalences(self):
        formula = P
        sizes = []
        for level in range(98):
            formula = ("iff", formula, Q) if level % 2 else ("iff", Q, formula)
            sizes.append(normal_size(formula))
        self.assertEqual(sizes[:4], [9, 24, 54, 114])
        self.assertEqual(sizes[-1], 15 * 2 ** 97 - 6)
        self.assertEqual(normal_size(formula, negated=True), 15 * 2 ** 97 - 6)
        for large in [formula, ("not", formula)]:
            with self.assertRaises(TooLarge) as caught:
                negation_normal(large)
            self.assertEqual(caught.exception.limit, "formula")

    def test_100_nested_tuples(self):
        for kind in ["implies", "and", "or"]:
            formula = P
            for _ in range(99):
                formula = (kind, formula, Q)
            form = negation_normal(formula)
            self.assertEqual(count(form), normal_size(formula))
        formula = P
        for _ in range(99):
            formula = ("not", formula)
        self.assertEqual(negation_normal(formula), NOT_P)


class TruthValues(unittest.TestCase):
    def test_no_truth_value_changes(self):
        source = random.Random(37)
        for _ in range(400):
            formula = random_formula(source, 4)
            form = negation_normal(formula)
            negative = negation_normal(("not", formula))
            self.assertEqual(count(form), normal_size(formula))
            self.assertEqual(count(negative), normal_size(formula, negated=True))
            self.assertEqual(free_variables(form), free_variables(formula))
            structure = Structure(2, {"f": {(0,): source.randrange(2), (1,): source.randrange(2)}},
                                  {"p": {(0,): source.random() < 0.5, (1,): source.random() < 0.5}})
            for assignment in assignments(["X", "Y"], 2):
                value = structure.formula_holds_at(formula, assignment)
                self.assertIs(structure.formula_holds_at(form, assignment), value)
                self.assertIs(structure.formula_holds_at(negative, assignment), not value)


def random_formula(source, depth):
    """Return a formula over the variables X and Y."""
    if depth == 0:
        left = source.choice(["X", "Y", ("f", "X"), ("f", ("f", "Y"))])
        return source.choice([("equal", ("p", left), TRUE), ("equal", left, "X"), ("true",), ("false",)])
    kind = source.choice(["not", "and", "or", "implies", "iff", "all", "some"])
    if kind in ("all", "some"):
        return (kind, source.choice("XY"), random_formula(source, depth - 1))
    if kind == "not":
        return (kind, random_formula(source, depth - 1))
    return (kind, random_formula(source, source.randrange(depth)), random_formula(source, depth - 1))


if __name__ == "__main__":
    unittest.main()
