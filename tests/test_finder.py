"""Points 107 to 110: unit propagation, refutation lists and the search for structures."""

import itertools
import random
import unittest

from elenchus.errors import InvalidStructure, TooLarge
from elenchus.finder import accepted, find_least, find_structure, follows, search
from elenchus.formulas import clause_signature
from elenchus.ground import Grounding
from elenchus.reader import read_clause
from elenchus.structures import clause_holds

GROUP = ["m(m(X0, X1), X2) = m(X0, m(X1, X2))", "m(e, X0) = X0", "m(i(X0), X0) = e"]
FOUR = [[1, 2], [1, -2], [-1, 2], [-1, -2]]


def clauses(*texts):
    return [read_clause(text) for text in texts]


def follows_by_hand(rows, clause):
    """Decide by point 107, one integer after the other, whether a clause follows."""
    if any(-number in clause for number in clause):
        return True
    true = {-number for number in clause}
    while True:
        left = [[number for number in set(row) if -number not in true] for row in rows]
        if [] in left:
            return True
        new = [row[0] for row in left if len(row) == 1 and row[0] not in true]
        if not new:
            return False
        true.add(new[0])


def accepted_by_hand(rows, refutation):
    for place, clause in enumerate(refutation):
        if not follows_by_hand(rows + refutation[:place], clause):
            return False
    return refutation != [] and refutation[-1] == []


def satisfied(rows, true):
    return all(any((number > 0) == (abs(number) in true) for number in row) for row in rows)


def satisfiable(rows, count):
    return any(satisfied(rows, {number for number in range(1, count + 1) if bits[number - 1]})
               for bits in itertools.product((False, True), repeat=count))


def pigeons(count):
    """Return clauses that say that there is one pigeon more than holes, and that no two share a hole."""
    rows = [[pigeon * count + hole + 1 for hole in range(count)] for pigeon in range(count + 1)]
    for hole in range(count):
        for first, second in itertools.combinations(range(count + 1), 2):
            rows.append([-(first * count + hole + 1), -(second * count + hole + 1)])
    return rows


def random_rows(choice, count):
    longest = choice.choice([2, 3, 3, 4])
    return [[choice.choice([1, -1]) * choice.randint(1, count) for _ in range(choice.randint(1, longest))]
            for _ in range(choice.randint(0, 4 * count))]


class Propagation(unittest.TestCase):
    """Point 107."""

    def test_the_example(self):
        self.assertTrue(follows([[1, 2], [1, -2], [-1, 3]], [3]))

    def test_a_conflict_at_once(self):
        self.assertIs(follows([[1, 2]], [1, 2]), True)
        self.assertIs(follows([[1, 2]], [2, 3, 1]), True)
        self.assertIs(follows([[1, 2]], [1]), False)
        self.assertIs(follows([[1], [-1]], []), True)
        self.assertIs(follows([[1]], [1]), True)
        self.assertIs(follows([[1]], [-1]), False)

    def test_a_conflict_behind_several_steps(self):
        chain = [[-number, number + 1] for number in range(1, 30)]
        self.assertTrue(follows(chain, [-1, 30]))
        self.assertTrue(follows(chain[::-1], [-5, 20]))
        self.assertFalse(follows(chain, [1, 30]))
        self.assertTrue(follows(chain + [[1]], [17]))
        self.assertTrue(follows(chain + [[1], [-30]], []))
        self.assertFalse(follows(chain[:10] + chain[11:] + [[1], [-30]], []))

    def test_what_is_true_but_needs_a_decision_does_not_follow(self):
        self.assertFalse(follows(FOUR, []))
        self.assertTrue(follows(FOUR, [1]))
        self.assertTrue(follows(FOUR + [[1]], []))
        self.assertFalse(follows(pigeons(3), []))

    def test_the_empty_clause_in_the_list(self):
        for clause in ([], [1], [-5, 6]):
            self.assertIs(follows([[1, 2], []], clause), True)
            self.assertIs(follows([[]], clause), True)
        self.assertIs(follows([], []), False)
        self.assertIs(follows([], [1, 2]), False)

    def test_a_clause_with_an_integer_and_its_negation(self):
        self.assertIs(follows([], [1, -1]), True)
        self.assertIs(follows([[2]], [3, -7, 7]), True)
        # In the list such a clause is never false, and makes nothing true.
        self.assertIs(follows([[1, -1]], [1]), False)
        self.assertIs(follows([[1, -1, 2]], [2]), False)
        self.assertIs(follows([[1, 1, -1], [-2, 1]], [-2]), False)

    def test_equal_integers_count_once(self):
        self.assertIs(follows([[1, 1], [-1, 2, 2, 2]], [2]), True)
        self.assertIs(follows([[1, 1, 2, 1]], [2]), False)
        self.assertIs(follows([[1, 1, 2, 1], [-1, -1]], [2, 2]), True)
        self.assertIs(follows([[2, 1, 1], [-1]], [2]), True)

    def test_against_propagation_by_hand(self):
        choice = random.Random(107)
        answers = []
        for _ in range(1500):
            count = choice.randint(1, 6)
            rows = random_rows(choice, count)[:choice.randint(0, 9)]
            clause = [choice.choice([1, -1]) * choice.randint(1, count + 1) for _ in range(choice.randint(0, 3))]
            answers.append(follows(rows, clause))
            self.assertEqual(answers[-1], follows_by_hand(rows, clause), (rows, clause))
        self.assertGreater(min(answers.count(True), answers.count(False)), 200)


class RefutationLists(unittest.TestCase):
    """Point 108."""

    def test_accepted_lists(self):
        self.assertIs(accepted(FOUR, [[1], []]), True)
        self.assertIs(accepted(FOUR, [[-2], [1, 2], []]), True)
        self.assertIs(accepted([[1], [-1]], [[]]), True)
        self.assertIs(accepted([[]], [[]]), True)
        self.assertIs(accepted([[]], [[7], []]), True)
        self.assertIs(accepted(FOUR, [[1], [], [5], []]), True)

    def test_an_empty_list(self):
        self.assertIs(accepted(FOUR, []), False)
        self.assertIs(accepted([[]], []), False)

    def test_a_list_whose_last_clause_is_not_empty(self):
        self.assertIs(accepted(FOUR, [[1]]), False)
        self.assertIs(accepted(FOUR, [[1], [], [1]]), False)

    def test_a_clause_that_does_not_follow(self):
        self.assertIs(accepted(FOUR, [[]]), False)
        self.assertIs(accepted(FOUR[:3], [[1], []]), False)
        self.assertIs(accepted(FOUR, [[3], [1], []]), False)
        self.assertIs(accepted([[1, 2]], [[1], [-1], []]), False)
        # Each clause follows from those before it, not from those behind it.
        rows = pigeons(2)
        for order in itertools.permutations([[1], [-1], []]):
            self.assertEqual(accepted(rows, list(order)), accepted_by_hand(rows, list(order)))

    def test_clauses_of_the_list_that_are_opposed(self):
        self.assertIs(accepted(FOUR, [[5, -5], [1], []]), True)
        self.assertIs(accepted([[1, 2]], [[5, -5], []]), False)

    def test_an_accepted_list_means_that_nothing_satisfies(self):
        choice = random.Random(108)
        answers = []
        for _ in range(1500):
            count = choice.randint(1, 4)
            rows = random_rows(choice, count)
            refutation = [[choice.choice([1, -1]) * choice.randint(1, count) for _ in range(choice.randint(0, 2))]
                          for _ in range(choice.randint(0, 3))] + choice.choice([[], [[]], [[]]])
            answers.append(accepted(rows, refutation))
            self.assertEqual(answers[-1], accepted_by_hand(rows, refutation), (rows, refutation))
            if answers[-1]:
                self.assertFalse(satisfiable(rows, count))
        self.assertGreater(min(answers.count(True), answers.count(False)), 100)

    def test_nothing_is_changed(self):
        rows = [[2, 1, 1], [1, -2], [-1, 2], [-2, -1]]
        refutation = [[1, 1], []]
        self.assertTrue(accepted(rows, refutation))
        self.assertTrue(follows(rows, refutation[0]))
        search(rows, 2)
        self.assertEqual((rows, refutation), ([[2, 1, 1], [1, -2], [-1, 2], [-2, -1]], [[1, 1], []]))


class Searching(unittest.TestCase):
    """Point 109."""

    def test_no_clauses_and_no_decisions(self):
        for count in (0, 1, 5):
            kind, numbers = search([], count, limit=2 ** count)
            self.assertEqual(kind, "true")
            self.assertLessEqual(set(numbers), set(range(1, count + 1)))
        self.assertEqual(search([], 0, limit=0), ("true", []))
        self.assertEqual(search([[1], [-1, 2], [-2, -3]], 3, limit=0), ("true", [1, 2]))
        self.assertEqual(search([[]], 0, limit=0), ("none", [[]]))
        self.assertEqual(search([[1], [-1]], 1, limit=0)[0], "none")
        self.assertEqual(search([[2, 1], [-1], [1, -2]], 2, limit=0)[0], "none")

    def test_the_three_answers(self):
        kind, refutation = search(FOUR, 2)
        self.assertEqual(kind, "none")
        self.assertTrue(accepted_by_hand(FOUR, refutation))
        self.assertEqual(search(FOUR[:3], 2), ("true", [1, 2]))
        self.assertEqual(search(FOUR, 2, limit=0), ("limit", 0))
        self.assertEqual(search(pigeons(4), 20, limit=3), ("limit", 3))
        self.assertEqual(search(pigeons(4), 20)[0], "none")

    def test_numbers_that_occur_in_no_clause(self):
        kind, numbers = search([[7], [-7, 3]], 9)
        self.assertEqual(kind, "true")
        self.assertTrue({3, 7} <= set(numbers) <= set(range(1, 10)))
        self.assertEqual(search([[5, 5], [-5]], 100)[0], "none")

    def test_equal_and_opposed_integers(self):
        self.assertEqual(search([[1, 1], [-1, -1, 2]], 2), ("true", [1, 2]))
        self.assertEqual(search([[1, -1], [-2, 2, 3]], 3)[0], "true")
        kind, refutation = search([[1, 1, 2], [1, -2, -2], [-1, 2, -1], [-2, -1, -2], [3, -3]], 3)
        self.assertEqual(kind, "none")
        self.assertTrue(accepted(FOUR, refutation))

    def test_random_clauses(self):
        choice = random.Random(109)
        kinds = []
        for _ in range(700):
            count = choice.randint(1, 6)
            rows = random_rows(choice, count)
            answer = search(rows, count, limit=2 ** count)
            kinds.append(answer[0])
            if satisfiable(rows, count):
                self.assertEqual(answer[0], "true")
                self.assertEqual(answer[1], sorted(set(answer[1])))
                self.assertTrue(satisfied(rows, set(answer[1])) and set(answer[1]) <= set(range(1, count + 1)))
            else:
                self.assertEqual(answer[0], "none")
                self.assertTrue(accepted_by_hand(rows, answer[1]))
                self.assertTrue(accepted(rows, answer[1]))
            self.assertEqual(search(rows, count, limit=2 ** count), answer)
            self.assertEqual(search(rows, count), answer)
            found = False
            for limit in range(2 ** count):
                other = search(rows, count, limit=limit)
                self.assertEqual(other, answer if found or other[0] != "limit" else ("limit", limit))
                found = other[0] != "limit"
        self.assertGreater(min(kinds.count("true"), kinds.count("none")), 100)

    def test_harder_clauses(self):
        for count in (3, 4, 5, 6):
            rows = pigeons(count)
            kind, refutation = search(rows, count * (count + 1))
            self.assertEqual(kind, "none")
            self.assertTrue(accepted(rows, refutation))
            if count < 5:
                self.assertTrue(accepted_by_hand(rows, refutation))
            kind, numbers = search(rows[1:], count * (count + 1))
            self.assertEqual(kind, "true")
            self.assertTrue(satisfied(rows[1:], set(numbers)))

    def test_the_answer_does_not_change_with_a_larger_limit(self):
        for rows in (pigeons(3), pigeons(4)[1:], pigeons(4)):
            answer = search(rows, 20, limit=10 ** 6)
            limits = [search(rows, 20, limit=limit) for limit in range(40)]
            needed = [other[0] for other in limits].count("limit")
            self.assertEqual(limits, [("limit", limit) for limit in range(needed)] + [answer] * (40 - needed))

    def test_the_limit_by_default(self):
        rows = pigeons(10)
        self.assertEqual(search(rows, 110), ("limit", 1000))
        self.assertEqual(find_structure(clauses(*GROUP), 4), find_structure(clauses(*GROUP), 4, limit=1000))


class Structures(unittest.TestCase):
    """Point 110."""

    def check_structure(self, rows, size, answer):
        kind, structure = answer
        self.assertEqual((kind, structure.size), ("structure", size))
        for clause in rows:
            self.assertTrue(clause_holds(structure, clause))
        self.assertEqual(structure, structure.completed(clause_signature(rows)))

    def test_the_example(self):
        a = (False, ("a",), ("b",))
        self.assertEqual(find_structure([(a,)], 1)[0], "none")

    def test_each_answer(self):
        rows = clauses("a != b", "f(f(X0)) = X0", "f(X0) != X0", "p(X0) | p(f(X0))", "~p(a) | q", "r(X0, X1) | X0 = X1")
        self.check_structure(rows, 2, find_structure(rows, 2))
        self.check_structure(rows, 4, find_structure(rows, 4))
        for size in (1, 3):
            kind, refutation = find_structure(rows, size)
            self.assertEqual(kind, "none")
            self.assertTrue(accepted(Grounding(rows, size).clauses(), refutation))
        self.assertEqual(find_structure(rows, 3, limit=0), ("limit", 0))
        self.assertEqual(find_structure(clauses("f(X0) != X0"), 3, limit=0), ("limit", 0))

    def test_a_structure_has_an_entry_for_each_symbol_and_tuple(self):
        rows = clauses("p(g(X0, X1)) | true", "q | ~q", "f(a) = f(a)")
        kind, structure = find_structure(rows, 2)
        self.assertEqual(kind, "structure")
        self.assertEqual({symbol: len(table) for symbol, table in structure.functions().items()},
                         {"g": 4, "f": 2, "a": 1})
        self.assertEqual({symbol: len(table) for symbol, table in structure.predicates().items()}, {"p": 2, "q": 1})

    def test_the_least_size(self):
        rows = clauses("f(f(f(X0))) = X0", "f(X0) != X0")
        self.check_structure(rows, 3, find_least(rows, 5))
        kind, refutations = find_least(rows, 2)
        self.assertEqual((kind, len(refutations)), ("none", 2))
        for size, refutation in enumerate(refutations, start=1):
            self.assertTrue(accepted(Grounding(rows, size).clauses(), refutation))
        self.assertEqual(find_least(rows, 3, limit=0), ("limit", 0))
        self.check_structure(clauses("p(a)"), 1, find_least(clauses("p(a)"), 1))
        self.check_structure([], 1, find_least([], 3))

    def test_a_limit_ends_the_search(self):
        rows = clauses("f(X0) != X0", "f(f(f(X0))) = X0", "a = a")
        self.assertEqual(find_structure(rows, 1, limit=0)[0], "none")
        answer = find_structure(rows, 2, limit=0)
        self.assertEqual(find_least(rows, 9, limit=0), ("limit", 0) if answer[0] == "limit"
                         else find_structure(rows, 3, limit=0))

    def test_the_empty_clause(self):
        self.assertEqual(find_structure([()], 2), ("none", [[]]))
        self.assertEqual(find_least([()], 2), ("none", [[[]], [[]]]))

    def test_errors(self):
        for greatest in (0, -1):
            self.assertRaises(InvalidStructure, find_least, clauses("p(a)"), greatest)
        for size in (0, -1, True, None):
            self.assertRaises(InvalidStructure, find_structure, clauses("p(a)"), size)
        self.assertRaises(TooLarge, find_structure, clauses("p(X0)"), 20001)
        different = ["a != b", "a != c", "a != d", "b != c", "b != d", "c != d"]
        self.assertRaises(TooLarge, find_least, clauses("p(X0, X1, X2, X3, X4, X5, X6, X7)", *different), 4)
        self.assertEqual(find_least(clauses("p(X0, X1, X2, X3, X4, X5, X6, X7)", *different), 3)[0], "none")
        # The size 1 has a structure, so that the greater ones are not looked at.
        self.assertEqual(find_least(clauses("p(X0, X1, X2, X3, X4, X5, X6, X7)"), 9)[0], "structure")

    def test_no_structure_against_all_structures(self):
        choice = random.Random(110)
        texts = ["f(f(X0)) = X0", "p(f(X0)) | p(X0)", "f(a) != a", "p(a) | ~p(f(X0))", "~q | X0 = X1",
                 "X0 != f(X1) | p(X1)",
                 "f(X0) = a | q", "f(f(a)) = f(X1) | ~p(X1)", "q | ~p(X0)", "f(X0) != f(X1) | X0 = X1", "~q | f(a) = a",
                 "~p(a)", "f(X0) != X0", "p(X0) | ~q"]
        kinds = []
        for _ in range(60):
            rows = clauses(*choice.sample(texts, choice.randint(2, 6)))
            grounding = Grounding(rows, 2)
            kind, found = find_structure(rows, 2)
            kinds.append(kind)
            self.assertEqual(kind == "structure", satisfiable(grounding.clauses(), grounding.variable_count))
            if kind == "structure":
                self.check_structure(rows, 2, (kind, found))
            else:
                self.assertTrue(accepted(grounding.clauses(), found))
        self.assertGreater(min(kinds.count("structure"), kinds.count("none")), 4)

    def test_groups(self):
        rows = clauses(*GROUP)
        for size in (1, 2, 3, 4):
            self.check_structure(rows, size, find_structure(rows, size))
        # A group of four elements commutes.
        self.assertEqual(find_least(rows + clauses("m(a, b) != m(b, a)"), 3)[0], "none")
        self.check_structure(rows + clauses("m(a, a) != e", "b != e", "m(b, b) = e"), 4,
                             find_least(rows + clauses("m(a, a) != e", "b != e", "m(b, b) = e"), 4))


if __name__ == "__main__":
    unittest.main()
