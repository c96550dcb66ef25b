"""Point 102: expanding the records of a prover."""

import random
import unittest

from elenchus.clauses import normal
from elenchus.derivation import check, is_refutation, used_inputs
from elenchus.errors import UnknownRecord
from elenchus.expansion import expand, supporting
from elenchus.loop import Prover
from elenchus.reader import read_clause
from elenchus.weights import Ordering

TRUE = ("true",)
ORDERING = Ordering({}, ["a", "b", "c", "f", "g"])


def clauses(*texts):
    return [read_clause(text) for text in texts]


class Records(unittest.TestCase):
    """Records of every rule."""

    def expand_all(self, inputs, steps, ordering=ORDERING, **settings):
        """Run a prover, expand each of its records, and return the records and the rules of the last expansion."""
        prover = Prover(ordering, **settings)
        for clause in inputs:
            prover.add(clause)
        prover.run(steps)
        records = prover.history
        for number in range(len(records)):
            rules = self.expand_one(inputs, records, number)
        return records, rules

    def expand_one(self, inputs, records, number):
        """Check the expansion of a record, and return the list of its rules."""
        before = (list(inputs), list(records))
        steps = expand(inputs, records, number)
        self.assertTrue(check(inputs, steps))
        self.assertEqual(steps[-1][3], records[number][3])
        self.assertEqual(is_refutation(inputs, steps), records[number][3] == ())
        # Only inputs are used on which the record rests.
        added = [other for other, record in enumerate(records) if record[0] == "input"]
        allowed = [added.index(other) for other in supporting(records, number) if other in added]
        self.assertEqual(used_inputs(steps), allowed)
        self.assertEqual({step[2][0] for step in steps if step[0] == "input"}, set(allowed))
        self.assertEqual(before, (inputs, records))
        return [step[0] for step in steps]

    def test_the_example(self):
        inputs = [((True, ("a",), ("b",)),), ((False, ("a",), ("b",)),)]
        prover = Prover(Ordering({}, ["b", "a"]))
        for clause in inputs:
            prover.add(clause)
        answer = prover.run(10)
        self.assertTrue(is_refutation(inputs, expand(inputs, prover.history, answer[1])))

    def test_inputs_in_normal_form(self):
        inputs = clauses("f(X0) = X1 | p(X1)", "q(a)")
        inputs.append(())
        records, _ = self.expand_all(inputs, 0)
        self.assertEqual(expand(inputs, records, 0), [("input", (), (0,), inputs[0])])
        self.assertEqual(expand(inputs, records, 2), [("input", (), (2,), ())])

    def test_inputs_that_are_not_in_normal_form(self):
        inputs = [((True, ("f", 7), 4), (False, 4, 4), (True, 4, ("f", 7)), (True, ("p", 0), TRUE),
                   (True, ("f", 7), 4)),
                  ((True, 1, 0), (False, ("p", 0), TRUE), (True, 0, 1), (False, ("p", 0), TRUE), (True, 1, 0)),
                  ((True, 0, 0), (True, 0, 0), (True, 0, 0)), ((False, ("q",), TRUE),) * 3, ((True, 3, 9),)]
        records, _ = self.expand_all(inputs, 0)
        for number, clause in enumerate(inputs):
            self.assertEqual(records[number][3], normal(clause))
        self.assertEqual([step[0] for step in expand(inputs, records, 0)],
                         ["input", "swap", "merge", "merge", "instance"])
        self.assertEqual([step[0] for step in expand(inputs, records, 4)], ["input", "instance"])

    def test_trivial_literals_of_an_input_stay(self):
        inputs = clauses("a != a | p(X0)")
        records, _ = self.expand_all(inputs, 0)
        self.assertEqual(expand(inputs, records, 0)[-1][3], inputs[0])

    def test_superpositions_of_equations(self):
        for texts, rules in [
                (("f(a) = b", "p(g(f(X0), X0)) | q"), ["input", "instance", "input"]),
                (("b = f(a)", "g(f(X0), X0) = c | q"), ["swap", "replace"]),
                (("f(a) = b", "c = g(a, f(X0)) | q"), ["replace"]),
                (("b = f(a) | r", "~p(g(f(X0), X1)) | q"), ["swap", "replace"])]:
            records, found = self.expand_all(clauses(*texts), 2, by_weight=0, ordering=Ordering(
                {"p": 9, "g": 9}, ["a", "b", "c", "f", "g"]))
            self.assertEqual(records[-1][0], "superposition")
            for rule in rules:
                self.assertIn(rule, found)

    def test_positions_in_both_sides(self):
        ordering = Ordering({"q": 9}, [])
        sides = set()
        for text in ("g(f(X0), X0) = g(X0, X1) | r", "g(X0, f(X1)) != g(f(X0), X1)", "g(a, X1) = g(X1, f(f(X0)))"):
            records, _ = self.expand_all(clauses("f(a) = b | s", text), 2, ordering=ordering, by_weight=0)
            sides |= {record[2][1][1] for record in records if record[0] == "superposition"}
        self.assertEqual(sides, {0, 1})

    def test_superpositions_of_atoms(self):
        records, rules = self.expand_all(clauses("p(X0, f(X1)) | r(X1)", "~p(g(X0, X1), X1) | q(X0)"), 2, selection=1)
        self.assertEqual((records[-1][0], rules), ("superposition",
                                                   ["input", "input", "instance", "instance", "resolve", "instance"]))

    def test_a_clause_with_itself(self):
        records, rules = self.expand_all(clauses("f(f(X0)) = g(X0)"), 1)
        self.assertEqual([record[1] for record in records[1:]], [(0, 0)] * (len(records) - 1))
        self.assertIn("replace", rules)
        records, rules = self.expand_all(clauses("p(f(X0), X1) | ~p(X1, X0)"), 1, selection=1)
        self.assertEqual(len(records), 1)
        records, rules = self.expand_all(clauses("g(X0, g(X1, X2)) = g(g(X1, X0), X2)"), 2)
        self.assertGreater(len(records), 4)

    def test_resolutions(self):
        records, rules = self.expand_all(clauses("g(X0, a) != g(b, X1) | q(X0, X1) | r(X2)"), 1, selection=1)
        self.assertEqual((records[-1][0], rules), ("resolution", ["input", "instance", "drop", "instance"]))
        records, rules = self.expand_all(clauses("q(X0, X1) | X1 != X0"), 1, selection=1)
        self.assertEqual((records[-1][0], rules), ("resolution", ["input", "instance", "drop"]))

    def test_factorings_of_equations(self):
        texts = ["f(X0) = X0 | f(a) = X1", "X0 = f(X0) | f(a) = X1", "f(X0) = X0 | X1 = f(a)", "X0 = f(X0) | X1 = f(a)",
                 "q(X2) | X1 = f(a) | r(X2) | b = f(X0)"]
        for text in texts:
            places = set()
            for reverse in (False, True):
                inputs = [clause[::-1] if reverse else clause for clause in clauses(text)]
                records, _ = self.expand_all(inputs, 1)
                found = [record for record in records if record[0] == "factoring"]
                places |= {(first[0] < second[0], first[1], second[1]) for _, _, (first, second), _ in found}
            self.assertEqual({place[0] for place in places}, {True, False}, text)

    def test_factorings_of_atoms(self):
        records, rules = self.expand_all(clauses("q(X1) | p(X0, b) | r(X2) | p(a, X1)"), 1,
                                         ordering=Ordering({"p": 9}, []))
        found = [record for record in records if record[0] == "factoring"]
        self.assertEqual([(first, second) for _, _, (first, second), _ in found], [((1, 0), (3, 0)), ((3, 0), (1, 0))])
        self.assertEqual(rules, ["input", "instance", "instance", "factor", "drop", "instance"])

    def test_conclusions_that_lose_merge_and_exchange_literals(self):
        ordering = Ordering({"p": 9, "h": 9}, ["a", "b", "c", "f", "g"])
        for texts, rules in [
                (("~p(X0, X1) | X0 != a | X1 = X0 | q(X0)", "p(a, b) | b = a | q(a) | r"),
                 {"drop", "merge", "resolve"}),
                (("~p(X0, X1) | b = X0 | q(X1)", "p(a, X2) | a = b | r(X2)"), {"swap", "merge", "resolve"}),
                (("h(X0) = X0 | b = X0", "h(a) != a | a = b | X1 = X2 | r(X2)"), {"replace", "drop", "swap", "merge"}),
                (("h(X0) != h(a) | X0 = b | b = a | a != X0", "r"), {"drop", "swap", "merge"}),
                (("p(X0, a) | p(b, X1) | X0 = X1 | b = a | a = X0", "r"), {"factor", "drop", "swap", "merge"})]:
            records, _ = self.expand_all(clauses(*texts), 2, ordering=ordering, selection=1, by_weight=0)
            used = set()
            for number, record in enumerate(records):
                if record[0] != "input":
                    used |= {step[0] for step in expand(clauses(*texts), records, number)}
            self.assertLessEqual(rules, used, texts)

    def test_each_step_of_a_simplification(self):
        texts = ["g(X0, X1) = X1", "b = f(b)", "a != c", "~p(X0)", "b != X0 | r(X0)",
                 "q(g(X7, f(b)), X7) | c = a | p(g(a, X7)) | g(b, a) != a | q(f(b), X7) | s(X1)"]
        records, rules = self.expand_all(clauses(*texts), 20, ordering=Ordering({"q": 5}, ["a", "b", "c", "f", "g"]))
        steps = [step[0] for rule, _, details, _ in records if rule == "simplify" for step in details]
        self.assertEqual(set(steps), {"clean", "rewrite", "cut"})

    def test_cuts_in_both_orders(self):
        for first, second in [("a != f(X0)", "a = f(b) | q"), ("f(X0) != a", "a = f(b) | q"),
                              ("~p(X0, X1)", "q | p(X3, X3)"),
                              ("f(X0) != g(X1, X2)", "f(X5) = g(X5, X6) | q"),
                              ("f(X0) != g(X1, X2)", "g(X5, X6) = f(X5) | q")]:
            records, rules = self.expand_all(clauses(first, second), 2, by_weight=0)
            cuts = [number for number, record in enumerate(records) if record[0] == "simplify"]
            self.assertEqual([step[0] for step in records[cuts[0]][2]], ["cut"])
            self.assertIn("resolve", [step[0] for step in expand(clauses(first, second), records, cuts[0])])

    def test_rules_with_exchanged_variables(self):
        # The substitution exchanges variables, so they must be replaced at the same time.
        records, _ = self.expand_all(clauses("g(X0, X1) = a", "p(g(X1, X0), X1, X0) | q"), 2, by_weight=0)
        self.assertEqual(records[2][3], read_clause("p(a, X0, X1) | q"))
        records, _ = self.expand_all(clauses("h(X0, X1) = g(X1, X0)", "p(X0, h(X1, X0))"), 2, by_weight=0,
                                     ordering=Ordering({"h": 5}, []))
        self.assertEqual(records[2][3], read_clause("p(X0, g(X0, X1))"))

    def test_inputs_that_are_added_after_a_run(self):
        prover = Prover(ORDERING)
        inputs = clauses("f(X3) = X3", "p(f(a)) | p(f(f(a)))")
        for clause in inputs:
            prover.add(clause)
        prover.run(9)
        count = len(prover.history)
        self.assertGreater(count, 2)
        inputs += [((False, ("p", 5), TRUE), (True, 7, 9)), ((False, ("a",), ("b",)),)]
        self.assertEqual([prover.add(clause) for clause in inputs[2:]], [count, count + 1])
        answer = prover.run(20)
        self.assertEqual(answer[0], "refuted")
        records = prover.history
        for number in range(len(records)):
            self.expand_one(inputs, records, number)

    def test_random_provers(self):
        choice = random.Random(102)
        texts = ["f(X0) = X0", "f(a) = b | b = a", "p(X0) | f(X0) = a", "~p(a) | b = a", "p(f(X0)) | ~p(X0)", "p(b)",
                 "~p(X0)",
                 "f(X0) = f(X1) | p(X0)", "f(f(X0)) = a | X0 = b", "a != b | f(b) = a", "q | ~p(a)",
                 "p(a) | p(X0) | ~q",
                 "q | a = b", "f(a) = X0 | X0 != b", "p(a) | ~q", "~q | ~p(b)", "f(b) != a", "g(X0, X1) = g(X1, X0)",
                 "g(g(X0, X1), X2) = g(X0, g(X1, X2))", "g(X0, a) = X0", "g(X0, X0) = a | q", "f(X0) != f(b) | q",
                 "a = a | q", "b != b | p(f(b))", "r(X0, X1) | ~r(X1, X0)", "r(a, f(X0)) | X0 != a",
                 "g(X4, X4) = a | a = b"]
        rules = set()
        ends = 0
        for _ in range(120):
            ordering = Ordering({name: choice.randint(1, 3) for name in "abfgpqr" if choice.random() < 0.4},
                                choice.sample("abfgpqr", choice.randint(0, 7)))
            inputs = clauses(*choice.sample(texts, choice.randint(1, 6)))
            records, _ = self.expand_all(inputs, 6, ordering=ordering, selection=choice.randint(0, 2))
            rules |= {record[0] for record in records}
            ends += records[-1][3] == ()
        self.assertEqual(rules, {"input", "superposition", "resolution", "factoring", "simplify"})
        self.assertGreater(ends, 5)


class Supporting(unittest.TestCase):
    """The interface of elenchus/expansion.py."""

    def setUp(self):
        self.inputs = clauses("~p(X0) | q(f(X0))", "p(a)", "r(b)", "f(X0) = X0", "~q(a)")
        self.prover = Prover(Ordering({}, []), selection=1, by_weight=0)
        for clause in self.inputs:
            self.prover.add(clause)
        self.answer = self.prover.run(20)
        self.records = self.prover.history

    def test_what_a_record_rests_on(self):
        number = self.answer[1]
        self.assertEqual(self.answer, ("refuted", len(self.records) - 1))
        found = supporting(self.records, number)
        by_hand = {number}
        while True:
            grown = by_hand | {premise for other in by_hand for premise in self.records[other][1]}
            if grown == by_hand:
                break
            by_hand = grown
        self.assertEqual(found, sorted(by_hand))
        self.assertNotIn(2, found)
        self.assertEqual(supporting(self.records, 3), [3])
        self.assertEqual(used_inputs(expand(self.inputs, self.records, number)), [0, 1, 3, 4])

    def test_records_that_do_not_count_are_not_used(self):
        number = len(self.records) - 1
        used = supporting(self.records, number)
        spoiled = [record if other in used else (record[0], (), None, None)
                   for other, record in enumerate(self.records)]
        self.assertNotEqual(spoiled, self.records)
        self.assertEqual(expand(self.inputs, spoiled, number), expand(self.inputs, self.records, number))

    def test_unknown_records(self):
        for records in ([], self.records):
            for number in (-1, len(records), len(records) + 5):
                for call in (lambda: supporting(records, number), lambda: expand(self.inputs, records, number)):
                    with self.assertRaises(UnknownRecord) as caught:
                        call()
                    self.assertEqual(caught.exception.number, number)

    def test_the_lists_are_new(self):
        self.assertIsNot(supporting(self.records, 5), supporting(self.records, 5))
        first = expand(self.inputs, self.records, 5)
        first.clear()
        self.assertNotEqual(expand(self.inputs, self.records, 5), [])


if __name__ == "__main__":
    unittest.main()
