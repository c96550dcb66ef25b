"""Points 103 to 106: grounding."""

import itertools
import random
import unittest

from elenchus.errors import InvalidStructure, TooLarge, UnknownSymbol
from elenchus.formulas import clause_signature
from elenchus.ground import Grounding
from elenchus.reader import read_clause
from elenchus.structures import Structure, clause_holds

TRUE = ("true",)


def clauses(*texts):
    return [read_clause(text) for text in texts]


def instances(size, *texts):
    """Return the propositional clauses behind those for the functions."""
    rows = clauses(*texts)
    grounding = Grounding(rows, size)
    count = sum(size ** arity * (1 + size * (size - 1) // 2) for _, arity in clause_signature(rows).functions())
    return grounding.clauses()[count:]


class Numbers(unittest.TestCase):
    """Point 103."""

    def test_the_example(self):
        grounding = Grounding([((True, ("p", ("f", 0)), ("true",)),)], 2)
        self.assertEqual([grounding.meaning(number) for number in range(1, 7)],
                         [("f", (0,), 0), ("f", (0,), 1), ("f", (1,), 0), ("f", (1,), 1), ("p", (0,)), ("p", (1,))])
        self.assertEqual(grounding.clauses(), [[1, 2], [-1, -2], [3, 4], [-3, -4], [-1, 5], [-2, 6], [-3, 5], [-4, 6]])

    def test_the_order_of_the_variables(self):
        grounding = Grounding(clauses("q(g(b, X0)) | ~p(X1, a)", "r | f(X0) = b"), 3)
        meanings = [grounding.meaning(number + 1) for number in range(grounding.variable_count)]
        expected = []
        for symbol, arity in [("g", 2), ("b", 0), ("a", 0), ("f", 1)]:
            expected += [(symbol, row, element) for row in itertools.product(range(3), repeat=arity)
                         for element in range(3)]
        for symbol, arity in [("q", 1), ("p", 2), ("r", 0)]:
            expected += [(symbol, row) for row in itertools.product(range(3), repeat=arity)]
        self.assertEqual(meanings, expected)
        self.assertEqual(grounding.variable_count, len(expected))

    def test_meaning_and_number_are_inverse(self):
        for size in (1, 2, 4):
            grounding = Grounding(clauses("q(g(b, X0)) | ~p(X1, a) | r", "f(f(X0)) = X0"), size)
            for number in range(1, grounding.variable_count + 1):
                meaning = grounding.meaning(number)
                self.assertEqual(grounding.number(*meaning), number)
            seen = {str(grounding.meaning(number)) for number in range(1, grounding.variable_count + 1)}
            self.assertEqual(len(seen), grounding.variable_count)

    def test_unknown_variables(self):
        grounding = Grounding(clauses("p(f(X0), a) | q"), 2)
        self.assertEqual(grounding.number("a", (), element=1), grounding.number("a", (), 1))
        for wrong in [("g", (0,), 0), ("g", (0,)), ("r", ()), ("f", (), 0), ("f", (0, 0), 0), ("a", (0,), 0),
                      ("f", (2,), 0),
                      ("f", (-1,), 0), ("f", (0,), 2), ("f", (0,), -1), ("f", (0,)), ("a", ()), ("p", (0, 0), 0),
                      ("q", (), 0),
                      ("p", (0,)), ("p", (0, 0, 0)), ("p", (0, 2)), ("p", (-1, 0)), ("q", (0,)), ("true", ()),
                      ("true", (), 0)]:
            with self.assertRaises(UnknownSymbol) as caught:
                grounding.number(*wrong)
            self.assertEqual(caught.exception.symbol, wrong[0])

    def test_no_clauses(self):
        grounding = Grounding([], 3)
        self.assertEqual((grounding.variable_count, grounding.clauses()), (0, []))
        self.assertEqual(grounding.structure([]), Structure(3, {}, {}))

    def test_structures(self):
        grounding = Grounding(clauses("p(f(X0), a) | q"), 3)
        numbers = [grounding.number("f", (0,), 2), grounding.number("f", (0,), 1), grounding.number("f", (2,), 0),
                   grounding.number("f", (2,), 2), grounding.number("a", (), 1), grounding.number("p", (1, 2))]
        pairs = list(itertools.product(range(3), repeat=2))
        for given in (numbers, numbers[::-1], numbers + numbers):
            structure = grounding.structure(given)
            self.assertEqual(structure.size, 3)
            self.assertEqual(structure.functions(), {"f": {(0,): 1, (1,): 0, (2,): 0}, "a": {(): 1}})
            self.assertEqual(structure.predicates(), {"p": {row: row == (1, 2) for row in pairs}, "q": {(): False}})
        self.assertEqual(grounding.structure([]).functions(), {"f": {(0,): 0, (1,): 0, (2,): 0}, "a": {(): 0}})
        self.assertEqual(grounding.structure([grounding.number("q", ())]).predicates()["q"], {(): True})

    def test_wrong_sizes(self):
        for size in (0, -1, True, False, None, "2"):
            for rows in ([], clauses("p(a)")):
                self.assertRaises(InvalidStructure, Grounding, rows, size)
        Grounding([], 1)


class FunctionClauses(unittest.TestCase):
    """The first sentence of point 104."""

    def test_values_of_a_constant(self):
        grounding = Grounding(clauses("a = a"), 4)
        self.assertEqual(grounding.clauses()[:7], [[1, 2, 3, 4], [-1, -2], [-1, -3], [-1, -4], [-2, -3], [-2, -4],
                                                   [-3, -4]])

    def test_functions_in_order(self):
        grounding = Grounding(clauses("f(a) = X0"), 2)
        self.assertEqual(grounding.clauses()[:6], [[1, 2], [-1, -2], [3, 4], [-3, -4], [5, 6], [-5, -6]])

    def test_size_1(self):
        self.assertEqual(Grounding(clauses("f(a) = X0"), 1).clauses(), [[1], [2]])


class Instances(unittest.TestCase):
    """The rest of point 104."""

    def test_atoms_of_variables(self):
        self.assertEqual(instances(2, "p(X0, X1) | ~p(X1, X1)"), [[2, -4], [3, -1]])
        self.assertEqual(instances(3, "~q | p(X5)"), [[-1, 2], [-1, 3], [-1, 4]])

    def test_a_nested_application(self):
        # The arguments of an application get their variables before it.
        grounding = Grounding(clauses("p(f(g(X0)))"), 2)
        number = grounding.number
        expected = [[-number("g", (x,), y), -number("f", (y,), z), number("p", (z,))]
                    for x in (0, 1) for y in (0, 1) for z in (0, 1)]
        self.assertEqual(grounding.clauses()[8:], expected)

    def test_the_order_of_the_new_variables(self):
        grounding = Grounding(clauses("~p(h(f(X1), a), X0) | b = f(a)"), 2)
        number = grounding.number
        expected = []
        for one, zero, f1, a, h, b, fa in itertools.product((0, 1), repeat=7):
            row = [-number("f", (one,), f1), -number("a", (), a), -number("h", (f1, a), h), -number("b", (), b),
                   -number("f", (a,), fa), -number("p", (h, zero))]
            row = list(dict.fromkeys(row))
            if b != fa and not any(-value in row for value in row):
                expected.append(row)
        self.assertEqual(instances(2, "~p(h(f(X1), a), X0) | b = f(a)"), expected)

    def test_equal_applications_get_one_variable_in_a_clause(self):
        grounding = Grounding(clauses("p(f(X0), f(X0)) | q(f(X0))"), 2)
        number = grounding.number
        self.assertEqual(grounding.clauses()[4:], [[-number("f", (x,), y), number("p", (y, y)), number("q", (y,))]
                                                   for x in (0, 1) for y in (0, 1)])
        self.assertEqual(len(instances(2, "p(f(X0), f(X1))")), 16)

    def test_equal_applications_in_two_clauses(self):
        self.assertEqual(len(instances(2, "p(f(X0))", "~p(f(X0)) | q")), 8)

    def test_equations_of_variables(self):
        self.assertEqual(instances(2, "X0 = X1 | p(X0)"), [[1], [2]])
        self.assertEqual(instances(2, "X0 != X1 | p(X0)"), [[1], [2]])
        self.assertEqual(instances(3, "X0 = X1 | X1 = X2"), [[]] * 12)
        self.assertEqual(instances(3, "X0 = X0"), [])
        self.assertEqual(instances(3, "X0 != X0"), [[], [], []])

    def test_equations_of_applications(self):
        self.assertEqual(Grounding(clauses("a = b"), 2).clauses(),
                         [[1, 2], [-1, -2], [3, 4], [-3, -4], [-1, -4], [-2, -3]])
        self.assertEqual(instances(2, "a != b"), [[-1, -3], [-2, -4]])
        self.assertEqual(instances(2, "a = X0"), [[-2], [-1]])

    def test_true_literals_and_false_ones(self):
        self.assertEqual(instances(2, "p(X0) | true"), [])
        self.assertEqual(instances(2, "~true | p(X0)"), [[1], [2]])
        self.assertEqual(instances(2, "~true"), [[]])
        self.assertEqual(instances(2, "true"), [])
        self.assertEqual(instances(2, "p(X0) | ~true | X0 = X0"), [])

    def test_integers_that_occur_twice(self):
        self.assertEqual(instances(2, "p(X0) | q | p(X1)"), [[1, 3], [1, 3, 2], [2, 3, 1], [2, 3]])
        self.assertEqual(instances(1, "f(X0) = f(f(X0)) | q"), [])
        self.assertEqual(instances(1, "p(f(f(X0)))"), [[-1, 2]])

    def test_an_integer_with_its_negation(self):
        self.assertEqual(instances(2, "p(X0) | ~p(X1)"), [[1, -2], [2, -1]])
        self.assertEqual(instances(1, "p(X0) | q | ~p(X1)"), [])

    def test_the_empty_clause(self):
        self.assertEqual(Grounding([()], 2).clauses(), [[]])
        self.assertEqual(Grounding([(), read_clause("p(X0)")], 2).clauses(), [[], [1], [2]])

    def test_own_variables_in_the_order_of_their_first_occurrence(self):
        grounding = Grounding(clauses("p(X7, X2, X7)"), 2)
        self.assertEqual(grounding.clauses(), [[grounding.number("p", (x, y, x))] for x in (0, 1) for y in (0, 1)])
        grounding = Grounding(clauses("p(f(X3), X1)"), 2)
        number = grounding.number
        self.assertEqual(grounding.clauses()[4:], [[-number("f", (x,), z), number("p", (z, y))]
                                                   for x in (0, 1) for y in (0, 1) for z in (0, 1)])

    def test_the_list_is_new(self):
        rows = clauses("p(a)")
        grounding = Grounding(rows, 2)
        first = grounding.clauses()
        first[0].append(9)
        first.clear()
        rows.clear()
        self.assertEqual(grounding.clauses(), [[1, 2], [-1, -2], [-1, 3], [-2, 4]])


class Limits(unittest.TestCase):
    """Point 105."""

    def test_the_number_of_variables(self):
        self.assertEqual(Grounding(clauses("p(X0)"), 20000).variable_count, 20000)
        for rows, size in [(clauses("p(X0)"), 20001), (clauses("p(X0) | q"), 20000), (clauses("a = a"), 20001),
                           (clauses("f(X0, X1) = X0"), 28), (clauses("p(X0, X1, X2, X3, X4, X5, X6, X7)"), 10 ** 20)]:
            self.assertRaises(TooLarge, Grounding, rows, size)
        self.assertEqual(Grounding(clauses("f(X0, X0) = X0"), 27).variable_count, 19683)

    def test_the_number_of_instances(self):
        rows = clauses("X0 = X1 | X1 = X2")
        one = [((True, 0, 0),)]
        # 27 ** 3 instances are 19683, and 317 more are the limit.
        limit = rows + one * 11 + [()] * 20
        self.assertEqual(27 ** 3 + 11 * 27 + 20, 20000)
        self.assertEqual(Grounding(limit, 27).variable_count, 0)
        self.assertRaises(TooLarge, Grounding, limit + [()], 27)
        self.assertRaises(TooLarge, Grounding, limit + clauses("true"), 27)

    def test_new_variables_count(self):
        self.assertRaises(TooLarge, Grounding, clauses("g(g(X0, X1), X2) = g(X0, g(X1, X2))"), 5)
        self.assertEqual(len(instances(3, "g(g(X0, X1), X2) = g(X0, g(X1, X2)) | ~true")),
                         len(instances(3, "g(g(X0, X1), X2) = g(X0, g(X1, X2))")))
        Grounding(clauses("g(g(X0, X1), X2) = g(X0, g(X1, X2))"), 4)
        Grounding(clauses("f(X0) != X1"), 27)
        self.assertRaises(TooLarge, Grounding, clauses("f(X0) = f(X1)"), 12)
        Grounding(clauses("f(X0) = f(X1)"), 11)

    def test_instances_that_are_left_out_count(self):
        self.assertRaises(TooLarge, Grounding, clauses("X0 = X0 | X1 = X2 | X3 = X4"), 8)
        Grounding(clauses("X0 = X0 | X1 = X2 | X3 = X4"), 7)


class Sets(unittest.TestCase):
    """Point 106, by going through all sets of variables."""

    def check_all(self, size, *texts):
        rows = clauses(*texts)
        grounding = Grounding(rows, size)
        propositional = grounding.clauses()
        count = grounding.variable_count
        self.assertLess(count, 14)
        described = set()
        for bits in itertools.product((False, True), repeat=count):
            true = [number for number in range(1, count + 1) if bits[number - 1]]
            if all(any((value > 0) == bits[abs(value) - 1] for value in clause) for clause in propositional):
                structure = grounding.structure(true)
                self.assertTrue(all(clause_holds(structure, clause) for clause in rows))
                self.assertEqual(numbers_of(grounding, structure), true)
                described.add(tuple(true))
        # Each structure in which the clauses hold is described by one of the sets.
        signature = clause_signature(rows)
        found = set()
        for structure in all_structures(size, signature):
            if all(clause_holds(structure, clause) for clause in rows):
                found.add(tuple(numbers_of(grounding, structure)))
        self.assertEqual(found, described)

    def test_all_sets(self):
        for size, texts in [(2, ["f(f(X0)) = X0", "p(f(X0)) | p(X0)"]), (2, ["f(a) != a", "p(a) | ~p(f(X0))"]),
                            (2, ["g(X0, X1) = g(X1, X0)", "p(g(X0, a)) | X0 = a"]), (3, ["a = b | p(X0)", "~p(a)"]),
                            (3, ["X0 = X1"]), (1, ["X0 = X1", "f(X0) != a | p(f(a))"]), (3, ["f(X0) != X0"]),
                            (2, ["~p(f(a)) | q", "~true | p(X0) | f(X0) = a", "~q | r(a, X1)"]),
                            (2, ["f(f(f(X0))) = f(X0)", "f(a) != f(b)", "X0 = a | X0 = b"]), (2, ["p(X0)", "~p(X1)"])]:
            self.check_all(size, *texts)

    def test_random_clauses(self):
        choice = random.Random(106)
        texts = ["f(f(X0)) = X0", "p(f(X0)) | p(X0)", "f(a) != a", "p(a) | ~p(f(X0))", "~q | X0 = X1",
                 "X0 != f(X1) | p(X1)",
                 "f(X0) = a | q", "f(f(a)) = f(X1) | ~p(X1)", "q | ~p(X0)", "f(X0) != f(X1) | X0 = X1", "~q | f(a) = a"]
        for _ in range(30):
            self.check_all(2, *choice.sample(texts, choice.randint(1, 4)))


def numbers_of(grounding, structure):
    """Return the variables that are true in a structure."""
    found = []
    for number in range(1, grounding.variable_count + 1):
        symbol, row, *element = grounding.meaning(number)
        if element:
            holds = structure.functions()[symbol][row] == element[0]
        else:
            holds = structure.predicates()[symbol][row]
        found += [number] if holds else []
    return found


def all_structures(size, signature):
    """Return all structures of the size."""
    places = [(table, symbol, row) for table, pairs in enumerate((signature.functions(), signature.predicates()))
              for symbol, arity in pairs for row in itertools.product(range(size), repeat=arity)]
    for values in itertools.product(*[(False, True) if place[0] else range(size) for place in places]):
        tables = ({}, {})
        for (table, symbol, row), value in zip(places, values):
            tables[table].setdefault(symbol, {})[row] = value
        yield Structure(size, *tables)


if __name__ == "__main__":
    unittest.main()
