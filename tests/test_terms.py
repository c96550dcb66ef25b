"""Points 3 and 5 to 7: terms and positions."""

import unittest

from elenchus.errors import InvalidPosition
from elenchus.terms import (
    TRUE, fits, is_ground, is_variable, nesting, occurs, positions, replace_at, replace_variables, shift, size,
    subterm_at, symbols, variables,
)

TERM = ("f", 3, ("g", 3, ("a",)))
NAMED = ("f", "X", ("g", "Y", ("h", "X", ("a",))), "Y")


def nested(depth, inner):
    """Return a term in which `depth` applications stand around the inner term."""
    term = inner
    for _ in range(depth):
        term = ("s", term)
    return term


class Kinds(unittest.TestCase):
    """Point 5."""

    def test_true_is_a_constant(self):
        self.assertEqual(TRUE, ("true",))

    def test_variables_are_strings_and_integers(self):
        for term in ["X", "Abc_1", 0, 1, 12]:
            self.assertIs(is_variable(term), True)

    def test_applications_are_no_variables(self):
        for term in [("a",), TRUE, ("f", 0), ("f", "X")]:
            self.assertIs(is_variable(term), False)

    def test_ground_terms(self):
        for term in [("a",), TRUE, ("f", ("a",), ("g", ("b",)))]:
            self.assertIs(is_ground(term), True)

    def test_terms_that_are_not_ground(self):
        for term in [0, 5, "X", ("f", 0), ("f", "X"), ("f", ("a",), ("g", ("b",), 0))]:
            self.assertIs(is_ground(term), False)


class Measures(unittest.TestCase):
    """Point 6."""

    def test_variables_and_constants(self):
        for term in [0, 7, "X", ("a",)]:
            self.assertEqual(size(term), 1)
            self.assertEqual(nesting(term), 1)

    def test_applications(self):
        self.assertEqual(size(TERM), 5)
        self.assertEqual(nesting(TERM), 3)
        self.assertEqual(size(NAMED), 8)
        self.assertEqual(nesting(NAMED), 4)

    def test_every_occurrence_counts(self):
        self.assertEqual(size(("f", 0, 0, 0)), 4)
        self.assertEqual(size(("f", ("a",), ("a",))), 3)

    def test_nesting_takes_the_greatest_argument(self):
        deep = ("g", ("g", ("a",)))
        self.assertEqual(nesting(("f", deep, 0)), 4)
        self.assertEqual(nesting(("f", 0, deep)), 4)
        self.assertEqual(nesting(("f", 0, 1)), 2)

    def test_a_nesting_of_100(self):
        for inner in [0, "X", ("a",)]:
            term = nested(99, inner)
            self.assertEqual(size(term), 100)
            self.assertEqual(nesting(term), 100)
            self.assertEqual(len(positions(term)), 100)
            self.assertEqual(subterm_at(term, (1,) * 99), inner)
            self.assertEqual(replace_at(term, (1,) * 99, ("b",)), nested(99, ("b",)))
        self.assertEqual(shift(nested(99, 4), 3), nested(99, 7))
        self.assertEqual(variables(nested(99, "X")), ["X"])
        self.assertEqual(symbols(nested(99, 0)), [("s", 1)])
        self.assertIs(is_ground(nested(99, ("a",))), True)

    def test_what_fits(self):
        self.assertIs(fits(nested(99, 0)), True)
        self.assertIs(fits(nested(100, 0)), False)
        self.assertIs(fits(("f", *[0] * 999)), True)
        self.assertIs(fits(("f", *[0] * 1000)), False)


class Variables(unittest.TestCase):
    """Points 5 and 6."""

    def test_order_of_the_first_occurrence(self):
        self.assertEqual(variables(("f", 3, ("g", 1, 3), 0, 1)), [3, 1, 0])
        self.assertEqual(variables(NAMED), ["X", "Y"])
        self.assertEqual(variables(("f", ("g", ("h", 9)), 8)), [9, 8])

    def test_single_terms(self):
        self.assertEqual(variables(0), [0])
        self.assertEqual(variables("X"), ["X"])
        self.assertEqual(variables(("a",)), [])

    def test_a_new_list_each_time(self):
        first = variables(TERM)
        first.append(9)
        self.assertEqual(variables(TERM), [3])

    def test_occurs(self):
        self.assertIs(occurs(0, ("f", 1, ("g", 0))), True)
        self.assertIs(occurs(0, 0), True)
        self.assertIs(occurs("X", NAMED), True)
        self.assertIs(occurs(0, ("f", 1)), False)
        self.assertIs(occurs(0, ("a",)), False)
        self.assertIs(occurs("Z", NAMED), False)
        self.assertIs(occurs(1, 0), False)

    def test_shift(self):
        self.assertEqual(shift(TERM, 4), ("f", 7, ("g", 7, ("a",))))
        self.assertEqual(shift(("f", 0, 2), 1), ("f", 1, 3))
        self.assertEqual(shift(0, 5), 5)
        self.assertEqual(shift(("a",), 5), ("a",))

    def test_shift_by_zero(self):
        self.assertEqual(shift(TERM, 0), TERM)
        self.assertEqual(shift(0, 0), 0)

    def test_replace_variables(self):
        self.assertEqual(replace_variables(NAMED, {"Y": "X", "X": ("b",)}),
                         ("f", ("b",), ("g", "X", ("h", ("b",), ("a",))), "X"))

    def test_symbols_ascending_without_duplicates(self):
        self.assertEqual(symbols(("g", ("b",), ("f", ("b",), ("a",)))), [("a", 0), ("b", 0), ("f", 2), ("g", 2)])

    def test_symbols_with_two_numbers_of_arguments(self):
        self.assertEqual(symbols(("f", ("f",), ("f", 0))), [("f", 0), ("f", 1), ("f", 2)])

    def test_symbols_of_variables(self):
        self.assertEqual(symbols(0), [])
        self.assertEqual(symbols("X"), [])


class Positions(unittest.TestCase):
    """Point 7."""

    def test_the_examples(self):
        self.assertEqual(positions(TERM, with_variables=False), [(), (2,), (2, 2)])
        self.assertEqual(subterm_at(TERM, (2, 1)), 3)
        self.assertEqual(replace_at(TERM, (2,), ("b",)), ("f", 3, ("b",)))
        with self.assertRaises(InvalidPosition):
            subterm_at(TERM, (3,))

    def test_preorder(self):
        self.assertEqual(positions(TERM), [(), (1,), (2,), (2, 1), (2, 2)])
        self.assertEqual(positions(NAMED), [(), (1,), (2,), (2, 1), (2, 2), (2, 2, 1), (2, 2, 2), (3,)])
        self.assertEqual(positions(NAMED, with_variables=False), [(), (2,), (2, 2), (2, 2, 2)])

    def test_variables_and_constants(self):
        self.assertEqual(positions(0), [()])
        self.assertEqual(positions("X"), [()])
        self.assertEqual(positions(("a",)), [()])
        self.assertEqual(positions(0, with_variables=False), [])
        self.assertEqual(positions("X", with_variables=False), [])
        self.assertEqual(positions(("a",), with_variables=False), [()])

    def test_every_position_of_a_term(self):
        expected = [NAMED, "X", ("g", "Y", ("h", "X", ("a",))), "Y", ("h", "X", ("a",)), "X", ("a",), "Y"]
        self.assertEqual([subterm_at(NAMED, position) for position in positions(NAMED)], expected)

    def test_replacing_at_every_position(self):
        for position in positions(NAMED):
            with self.subTest(position=position):
                changed = replace_at(NAMED, position, ("new", "Z"))
                self.assertEqual(subterm_at(changed, position), ("new", "Z"))
                self.assertEqual(replace_at(changed, position, subterm_at(NAMED, position)), NAMED)

    def test_replaced_terms(self):
        self.assertEqual(replace_at(TERM, (), 5), 5)
        self.assertEqual(replace_at(TERM, (1,), ("b",)), ("f", ("b",), ("g", 3, ("a",))))
        self.assertEqual(replace_at(TERM, (2, 2), 0), ("f", 3, ("g", 3, 0)))
        self.assertEqual(replace_at(0, (), ("a",)), ("a",))

    def test_the_elder_term_stays(self):
        term = ("f", 3, ("g", 3, ("a",)))
        replace_at(term, (2, 1), ("b",))
        self.assertEqual(term, TERM)

    def test_invalid_positions(self):
        cases = [
            (TERM, (0,)), (TERM, (3,)), (TERM, (2, 0)), (TERM, (2, 3)), (TERM, (-1,)),
            (TERM, (1, 1)), (TERM, (2, 1, 1)), (TERM, (2, 2, 1)), (TERM, (2, 2, 0)), (TERM, (0, 1)),
            (0, (1,)), (0, (0,)), ("X", (1,)), ("Xyz", (0,)), ("Xyz", (1,)), (("a",), (1,)), (("a",), (0,)),
        ]
        for term, position in cases:
            with self.subTest(term=term, position=position):
                with self.assertRaises(InvalidPosition) as caught:
                    subterm_at(term, position)
                self.assertEqual(caught.exception.position, position)
                with self.assertRaises(InvalidPosition) as caught:
                    replace_at(term, position, ("b",))
                self.assertEqual(caught.exception.position, position)


if __name__ == "__main__":
    unittest.main()
