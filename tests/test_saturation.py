"""Points 78, 79 and 77: saturated lists of clauses."""

import itertools
import random
import unittest

from elenchus.clauses import normal
from elenchus.equality import factorings, resolutions
from elenchus.errors import InvalidSelection
from elenchus.reader import read_clause
from elenchus.saturation import covers, open_inference
from elenchus.simplify import reduces
from elenchus.superposition import superpositions
from elenchus.weights import Ordering

TRUE = ("true",)
ORDERING = Ordering({}, ["a", "b", "c", "f", "g"])


def clauses(*texts):
    return [read_clause(text) for text in texts]


def inferences(ordering, selection, rows):
    """Return all inferences in the order of point 79, as open_inference would return them."""
    found = []
    for i, first in enumerate(rows):
        for j, second in enumerate(rows):
            for source, target, conclusion, _, _ in superpositions(ordering, selection, first, second):
                found.append(("superposition", i, j, source, target, conclusion))
    for i, clause in enumerate(rows):
        for index, conclusion, _, _ in resolutions(ordering, selection, clause):
            found.append(("resolution", i, index, conclusion))
        for first, second, conclusion, _, _ in factorings(ordering, selection, clause):
            found.append(("factoring", i, first, second, conclusion))
    return found


def by_hand(ordering, selection, rows):
    """Return what open_inference returns, by point 79."""
    for row in inferences(ordering, selection, rows):
        if not reduces(ordering, row[-1], rows):
            return row
    return None


class OpenInferences(unittest.TestCase):
    """Points 78 and 79."""

    def test_the_examples(self):
        ordering = Ordering({}, ["a", "b", "f"])
        rules = [((True, ("f", ("a",)), ("b",)),)]
        self.assertIsNone(open_inference(ordering, 0, rules))
        self.assertEqual(open_inference(ordering, 0, rules + [((True, ("f", 0), 0),)]),
                         ("superposition", 0, 1, (0, 0), (0, 0, ()), ((True, ("b",), ("a",)),)))

    def test_a_superposition_from_the_first_clause_into_the_second(self):
        rows = clauses("f(X0) = a", "p(f(b), X0) | q(X0)")
        self.assertEqual(open_inference(Ordering({}, ["a", "b", "f", "q", "p"]), 0, rows),
                         ("superposition", 0, 1, (0, 0), (0, 0, (1,)), read_clause("p(a, X0) | q(X0)")))

    def test_a_superposition_from_the_second_clause_into_the_first(self):
        rows = clauses("~p(f(X0)) | q(X0)", "p(f(a))")
        self.assertEqual(open_inference(Ordering({}, ["a", "f", "q", "p"]), 0, rows),
                         ("superposition", 1, 0, (0, 0), (0, 0, ()), read_clause("q(a)")))

    def test_a_superposition_of_a_clause_into_itself(self):
        rows = clauses("f(f(X0)) = g(X0)")
        self.assertEqual(open_inference(ORDERING, 0, rows),
                         ("superposition", 0, 0, (0, 0), (0, 0, (1,)), read_clause("f(g(X0)) = g(f(X0))")))

    def test_a_resolution(self):
        rows = clauses("q(a)", "f(X0) != f(a) | p(X0)")
        self.assertEqual(open_inference(Ordering({}, ["a", "p", "q", "f"]), 1, rows),
                         ("resolution", 1, 0, read_clause("p(a)")))

    def test_a_factoring(self):
        rows = clauses("q(a)", "p(X0, b) | p(a, X1)")
        self.assertEqual(open_inference(ORDERING, 0, rows),
                         ("factoring", 1, (0, 0), (1, 0), read_clause("p(a, b)")))

    def test_superpositions_come_before_resolutions_and_resolutions_before_factorings(self):
        ordering = Ordering({}, ["a", "b", "c", "q", "r", "f", "g", "p"])
        factoring = "p(X0) | p(a)"
        resolution = "g(X0) != g(a) | r(X0)"
        superposition = ["f(X0) = a", "r(f(b)) | q(b)"]
        rows = clauses(factoring, resolution)
        self.assertEqual(open_inference(ordering, 0, rows)[:2], ("factoring", 0))
        self.assertEqual(open_inference(ordering, 0, rows[::-1])[:2], ("resolution", 0))
        for texts in itertools.permutations([factoring, resolution] + superposition):
            self.assertEqual(open_inference(ordering, 0, clauses(*texts))[0], "superposition")

    def test_the_resolutions_of_a_clause_come_before_its_factorings(self):
        rows = clauses("g(X1, X2) != g(a, X2) | p(X0, X3) | p(a, X3)")
        self.assertEqual([row[0] for row in inferences(ORDERING, 0, rows)], ["resolution"] + ["factoring"] * 2)
        self.assertEqual(open_inference(ORDERING, 0, rows),
                         ("resolution", 0, 0, read_clause("p(X0, X1) | p(a, X1)")))

    def test_all_resolutions_and_factorings_of_one_clause_come_before_those_of_the_next(self):
        rows = clauses("p(X0, b) | p(a, X1)", "f(X0) != f(a) | q(X0)")
        ordering = Ordering({}, ["a", "b", "q", "p", "f"])
        self.assertEqual([row[:2] for row in inferences(ordering, 0, rows)][-2:], [("factoring", 0), ("resolution", 1)])
        self.assertEqual(open_inference(ordering, 0, rows)[:2], ("factoring", 0))

    def test_the_conclusion_is_in_normal_form(self):
        rows = [((False, ("p", 5), TRUE), (True, ("q", 5, 3), TRUE), (True, ("q", 5, 3), TRUE)),
                ((True, ("p", ("f", 7)), TRUE),)]
        found = open_inference(ORDERING, 1, rows)
        self.assertEqual(found, ("superposition", 1, 0, (0, 0), (0, 0, ()), read_clause("q(f(X0), X1)")))
        self.assertEqual(found[-1], normal(found[-1]))

    def test_inferences_of_lists_against_those_by_hand(self):
        choice = random.Random(79)
        texts = ["f(X0) = X0", "f(f(X0)) = g(X0)", "f(a) = b | p(a)", "~p(X0) | p(f(X0))", "p(a) | p(b)", "q(a, X0)",
                 "~q(X0, X1) | X0 = X1", "a != b", "g(X0) != g(a) | p(X0)", "b = a | f(a) = a", "~p(f(a))",
                 "q(X0, b) | q(a, X1)"]
        kinds = set()
        for _ in range(150):
            rows = clauses(*choice.sample(texts, choice.randint(1, 4)))
            for selection in (0, 1, 2):
                found = open_inference(ORDERING, selection, rows)
                self.assertEqual(found, by_hand(ORDERING, selection, rows))
                kinds.add(found[0] if found else None)
        self.assertEqual(kinds, {None, "superposition", "resolution", "factoring"})

    def test_the_conclusion_and_not_the_raw_one_must_reduce(self):
        # The last clause subsumes q(a) | q(a), but not q(a).
        ordering = Ordering({"p": 9, "f": 9}, [])
        for selection, texts, found in [
                (1, ["~p(X0) | q(X0)", "p(a) | q(a)", "q(X0) | q(X1)"], ("superposition", 1, 0)),
                (1, ["f(X0) != f(a) | q(X0) | q(a)", "q(X0) | q(X1)"], ("resolution", 0, 0)),
                (0, ["p(X0) | p(a) | q(X0) | q(a)", "p(X0) | q(X1) | q(X2)"], ("factoring", 0, (0, 0)))]:
            rows = clauses(*texts)
            self.assertEqual(open_inference(ordering, selection, rows)[:3], found)
            self.assertEqual(open_inference(ordering, selection, rows), by_hand(ordering, selection, rows))

    def test_inferences_whose_conclusions_reduce(self):
        for texts in (["f(X0) != f(a) | q(X0)", "q(a)"], ["p(X0, b) | p(a, X1)", "p(a, b)"],
                      ["f(a) = b | p", "q(f(a)) | p", "q(b) | p"]):
            rows = clauses(*texts)
            self.assertNotEqual(inferences(ORDERING, 1, rows), [])
            self.assertIsNone(open_inference(ORDERING, 1, rows), texts)

    def test_a_saturated_list_in_every_order_and_with_a_clause_twice(self):
        rows = clauses("f(f(X0)) = X0", "f(a) = b", "f(b) = a", "p(a)", "~p(b)")
        for order in itertools.permutations(rows):
            for selection in (0, 1, 2):
                self.assertIsNone(open_inference(ORDERING, selection, list(order)))
        for clause in rows:
            self.assertIsNone(open_inference(ORDERING, 0, rows + [clause]))
        self.assertIsNotNone(open_inference(ORDERING, 0, rows[:2]))

    def test_an_empty_list_and_the_empty_clause(self):
        for selection in (0, 1, 2):
            self.assertIsNone(open_inference(ORDERING, selection, []))
            self.assertIsNone(open_inference(ORDERING, selection, [()]))
            self.assertIsNone(open_inference(ORDERING, selection, clauses("p(a)", "~p(a)") + [()]))

    def test_the_selection_counts(self):
        rows = clauses("~p(X0) | q(X0)", "p(a)")
        ordering = Ordering({}, ["p", "q"])
        self.assertIsNone(open_inference(ordering, 0, rows))
        self.assertEqual(open_inference(ordering, 1, rows)[-1], read_clause("q(a)"))

    def test_wrong_selections(self):
        for rows in ([], clauses("p(a)")):
            for wrong in (True, False, None, 3, -1, "1"):
                with self.assertRaises(InvalidSelection) as caught:
                    open_inference(ORDERING, wrong, rows)
                self.assertIs(caught.exception.selection, wrong)

    def test_the_list_is_not_changed(self):
        rows = clauses("f(X0) = X0", "p(f(a))")
        before = list(rows)
        open_inference(ORDERING, 0, rows)
        covers(ORDERING, rows, rows[0])
        self.assertEqual(rows, before)


class Covered(unittest.TestCase):
    """The last sentence of point 78, and point 77."""

    def test_the_example(self):
        ordering = Ordering({}, ["a", "b", "f"])
        rules = [((True, ("f", ("a",)), ("b",)),)]
        self.assertIs(covers(ordering, rules, ((True, ("b",), ("f", ("a",))), (True, 0, ("a",)))), True)

    def test_each_clause_of_a_list(self):
        rows = clauses("f(X0) = X0", "~p(f(a)) | q(X0, X1)", "a != b", "p(X3) | p(a)") + [()]
        for clause in rows:
            self.assertIs(covers(ORDERING, rows, clause), True)
            self.assertIs(covers(ORDERING, [clause], clause), True)

    def test_an_instance_with_a_further_literal(self):
        rows = clauses("~p(X0) | q(X0, X1)")
        self.assertTrue(covers(ORDERING, rows, read_clause("r(X5) | q(f(a), X5) | ~p(f(a))")))
        self.assertIs(covers(ORDERING, rows, read_clause("r(X5) | q(f(a), X5)")), False)

    def test_a_tautology(self):
        for rows in ([], clauses("p(a)")):
            self.assertTrue(covers(ORDERING, rows, read_clause("a = a | b = c")))
            self.assertTrue(covers(ORDERING, rows, read_clause("a != b | q | b = a")))
            self.assertFalse(covers(ORDERING, rows, read_clause("a != b | q | b = c")))

    def test_the_empty_clause(self):
        self.assertFalse(covers(ORDERING, [], ()))
        self.assertFalse(covers(ORDERING, clauses("p(a)", "~p(a)"), ()))
        self.assertTrue(covers(ORDERING, clauses("p(a)") + [()], ()))
        self.assertTrue(covers(ORDERING, [()], read_clause("p(a) | q")))

    def test_a_clause_that_reduces_only_after_a_step(self):
        rows = clauses("f(X0) = X0", "p(a) | q")
        self.assertTrue(covers(ORDERING, rows, read_clause("p(f(f(a))) | q")))
        self.assertTrue(covers(ORDERING, rows, read_clause("f(f(b)) = f(b)")))
        self.assertFalse(covers(ORDERING, rows, read_clause("p(f(b)) | q")))
        self.assertTrue(covers(ORDERING, rows + clauses("b != c"), read_clause("b = c | p(f(a)) | q")))
        self.assertFalse(covers(ORDERING, clauses("p(a) | q"), read_clause("p(f(f(a))) | q")))

    def test_a_clause_that_is_cleaned(self):
        self.assertTrue(covers(ORDERING, [()], read_clause("a != a")))
        self.assertFalse(covers(ORDERING, clauses("p(a)"), read_clause("a != a")))


if __name__ == "__main__":
    unittest.main()
