"""Points 96 to 101: derivations."""

import random
import unittest

from elenchus.clauses import normal
from elenchus.derivation import (check, conclude, is_refutation, needed, predicates, prune, step_error,
                                 used_inputs)
from elenchus.errors import InvalidStep
from elenchus.reader import read_clause
from elenchus.show import show_clause
from elenchus.structures import Structure, clause_holds
from elenchus.terms import positions

TRUE = ("true",)
A = ("a",)
B = ("b",)

INPUTS = [read_clause(text) for text in (
    "f(X0) = a", "~p(X0) | q(X0)", "p(f(b))", "f(b) != a", "a = b | a = b | c = c", "a != a | p(b) | X0 != X0",
    "f(a) = b | f(a) = c | f(b) = c", "p(a) | p(a) | ~p(a)", "true | ~true | p(X1)",
    "g(f(a), X0) = X0 | q(g(X0, f(a)))",
    "~p(f(b)) | a != b | ~q(X3)", "b = X0", "c != g(f(a), b)")]


def start(*numbers):
    """Return steps that take these input clauses."""
    return [("input", (), (number,), INPUTS[number]) for number in numbers]


def nested(depth, inner=A):
    for _ in range(depth):
        inner = ("f", inner)
    return inner


class Predicates(unittest.TestCase):
    """Point 97."""

    def test_predicates(self):
        self.assertEqual(predicates(INPUTS), ["p", "q"])
        self.assertEqual(predicates([]), [])
        self.assertEqual(predicates([(), read_clause("a = f(b)")]), [])
        self.assertEqual(predicates([read_clause("z | ~r(a)"), read_clause("true | ~true"), read_clause("r(b) | b1")]),
                         ["b1", "r", "z"])


class Rules(unittest.TestCase):
    """Point 98: the conditions and the conclusions."""

    def check_rule(self, numbers, rule, premises, data, expected):
        """Check what a further step behind input steps gives: a written clause, or a reason."""
        steps = start(*numbers)
        if expected in ("rule", "premise", "data", "condition"):
            with self.assertRaises(InvalidStep) as caught:
                conclude(INPUTS, steps, rule, premises, data)
            self.assertEqual((caught.exception.place, caught.exception.reason), (len(steps), expected))
            self.assertEqual(step_error(INPUTS, steps + [(rule, premises, data, ())], len(steps)), expected)
            return
        conclusion = conclude(INPUTS, steps, rule, premises, data)
        self.assertEqual(show_clause(conclusion), expected)
        step = (rule, premises, data, conclusion)
        self.assertIsNone(step_error(INPUTS, steps + [step], len(steps)))
        self.assertIs(check(INPUTS, steps + [step]), True)
        wrong = conclusion + ((True, A, A),)
        self.assertEqual(step_error(INPUTS, steps + [(rule, premises, data, wrong)], len(steps)), "conclusion")

    def test_input(self):
        for number, clause in enumerate(INPUTS):
            self.check_rule([], "input", (), (number,), show_clause(clause))
            self.check_rule([1, 2], "input", (), (number,), show_clause(clause))

    def test_instance(self):
        self.check_rule([1], "instance", (0,), ((0, B),), "~p(b) | q(b)")
        self.check_rule([1], "instance", (0,), (), "~p(X0) | q(X0)")
        self.check_rule([1], "instance", (0,), ((7, B), (3, 0)), "~p(X0) | q(X0)")
        self.check_rule([1], "instance", (0,), ((0, 5),), "~p(X5) | q(X5)")
        self.check_rule([0, 9], "instance", (1,), ((0, ("f", 0)),), "g(f(a),f(X0)) = f(X0) | q(g(f(X0),f(a)))")
        self.check_rule([1], "instance", (0,), ((0, ("new", ("h", 9))),), "~p(new(h(X9))) | q(new(h(X9)))")

    def test_the_variables_of_an_instance_are_replaced_at_the_same_time(self):
        inputs = [read_clause("r(X0, X1, X2)")]
        steps = [("input", (), (0,), inputs[0])]
        self.assertEqual(conclude(inputs, steps, "instance", (0,), ((0, 1), (1, 0))), read_clause("r(X1, X0, X2)"))
        self.assertEqual(conclude(inputs, steps, "instance", (0,), ((0, ("f", 1)), (1, 2), (2, A))),
                         read_clause("r(f(X1), X2, a)"))
        steps.append(("instance", (0,), ((0, ("f", 1)),), read_clause("r(f(X1), X1, X2)")))
        self.assertEqual(conclude(inputs, steps, "instance", (1,), ((1, ("f", 0)),)),
                         read_clause("r(f(f(X0)), f(X0), X2)"))

    def test_terms_that_are_not_plain(self):
        for term in (TRUE, ("p", A), ("q", A), ("p",), ("f", TRUE), ("g", A, ("f", ("p", 0))), nested(40, TRUE),
                     nested(40, ("q", 3))):
            self.check_rule([1], "instance", (0,), ((0, term),), "condition")
            self.check_rule([1], "instance", (0,), ((5, term),), "condition")
            self.check_rule([1], "instance", (0,), ((0, A), (5, term)), "condition")
        self.check_rule([1], "instance", (0,), ((0, ("r", A)),), "~p(r(a)) | q(r(a))")
        # Only the predicates of the inputs count, wherever they are used.
        self.assertEqual(conclude(INPUTS[:1], start(0), "instance", (0,), ((0, ("p", B)),)), read_clause("f(p(b)) = a"))

    def test_swap(self):
        self.check_rule([6], "swap", (0,), (1,), "f(a) = b | c = f(a) | f(b) = c")
        self.check_rule([10], "swap", (0,), (1,), "~p(f(b)) | b != a | ~q(X3)")
        self.check_rule([10], "swap", (0,), (0,), "condition")
        self.check_rule([2], "swap", (0,), (0,), "condition")
        self.check_rule([8], "swap", (0,), (0,), "condition")

    def test_merge(self):
        self.check_rule([4], "merge", (0,), (0, 1), "a = b | c = c")
        self.check_rule([7], "merge", (0,), (0, 1), "p(a) | ~p(a)")
        self.check_rule([4], "merge", (0,), (1, 0), "condition")
        self.check_rule([4], "merge", (0,), (1, 1), "condition")
        self.check_rule([4], "merge", (0,), (0, 2), "condition")
        self.check_rule([7], "merge", (0,), (0, 2), "condition")
        inputs = [read_clause("a = b | c = d | b = a | a = b")]
        steps = [("input", (), (0,), inputs[0])]
        self.assertRaises(InvalidStep, conclude, inputs, steps, "merge", (0,), (0, 2))
        self.assertEqual(conclude(inputs, steps, "merge", (0,), (0, 3)), read_clause("a = b | c = d | b = a"))

    def test_drop(self):
        self.check_rule([5], "drop", (0,), (0,), "p(b) | X0 != X0")
        self.check_rule([5], "drop", (0,), (2,), "a != a | p(b)")
        self.check_rule([8], "drop", (0,), (1,), "true | p(X1)")
        self.check_rule([5], "drop", (0,), (1,), "condition")
        self.check_rule([4], "drop", (0,), (2,), "condition")
        self.check_rule([8], "drop", (0,), (0,), "condition")
        self.check_rule([3], "drop", (0,), (0,), "condition")

    def test_resolve(self):
        self.check_rule([2, 10], "resolve", (0, 1), (0, 0), "a != b | ~q(X3)")
        self.check_rule([4, 10], "resolve", (0, 1), (1, 1), "a = b | c = c | ~p(f(b)) | ~q(X3)")
        self.check_rule([2, 10], "resolve", (1, 0), (0, 0), "condition")
        self.check_rule([2, 1], "resolve", (0, 1), (0, 0), "condition")
        self.check_rule([2, 3], "resolve", (0, 1), (0, 0), "condition")
        self.check_rule([4, 5], "resolve", (0, 1), (0, 1), "condition")
        self.check_rule([0, 3], "resolve", (0, 1), (0, 0), "condition")
        self.check_rule([7], "resolve", (0, 0), (1, 2), "p(a) | ~p(a) | p(a) | p(a)")
        self.check_rule([8], "resolve", (0, 0), (0, 1), "~true | p(X1) | true | p(X1)")
        # The sides must be equal in this order.
        inputs = [read_clause("a = b"), read_clause("b != a | p"), read_clause("a != b | p")]
        steps = [("input", (), (k,), inputs[k]) for k in range(3)]
        self.assertRaises(InvalidStep, conclude, inputs, steps, "resolve", (0, 1), (0, 0))
        self.assertEqual(conclude(inputs, steps, "resolve", (0, 2), (0, 0)), read_clause("p"))

    def test_replace(self):
        self.check_rule([6, 9], "replace", (0, 1), (1, 0, 0, (1,)),
                        "f(a) = b | f(b) = c | g(c,X0) = X0 | q(g(X0,f(a)))")
        self.check_rule([6, 9], "replace", (0, 1), (0, 1, 0, (1, 2)),
                        "f(a) = c | f(b) = c | g(f(a),X0) = X0 | q(g(X0,b))")
        self.check_rule([6, 9], "replace", (0, 1), (2, 1, 0, (1, 2)), "condition")
        self.check_rule([6, 9], "replace", (0, 1), (0, 1, 0, (1,)), "condition")
        self.check_rule([3, 10], "replace", (0, 1), (0, 0, 0, (1,)), "condition")
        self.check_rule([4, 10], "replace", (0, 1), (0, 1, 0, ()), "a = b | c = c | ~p(f(b)) | b != b | ~q(X3)")
        self.check_rule([4, 10], "replace", (0, 1), (2, 1, 1, ()), "condition")
        self.check_rule([11, 10], "replace", (0, 1), (0, 1, 1, ()), "~p(f(b)) | a != X0 | ~q(X3)")
        self.check_rule([11, 12], "replace", (0, 1), (0, 0, 1, (2,)), "c != g(f(a),X0)")
        self.check_rule([6, 12], "replace", (0, 1), (0, 0, 1, (1,)), "f(a) = c | f(b) = c | c != g(b,b)")
        self.check_rule([6, 12], "replace", (0, 1), (0, 0, 1, (3,)), "data")
        self.check_rule([6, 12], "replace", (0, 1), (0, 0, 0, (1,)), "data")
        self.check_rule([2, 10], "replace", (0, 1), (0, 0, 0, ()), "~true | a != b | ~q(X3)")
        self.check_rule([8, 8], "replace", (0, 1), (0, 2, 1, ()), "~true | p(X1) | true | ~true | p(X1)")
        self.check_rule([6], "replace", (0, 0), (0, 1, 0, ()), "f(a) = c | f(b) = c | f(a) = b | b = c | f(b) = c")

    def test_factor(self):
        self.check_rule([6], "factor", (0,), (0, 1), "f(a) = c | f(b) = c | b != c")
        self.check_rule([6], "factor", (0,), (1, 0), "f(a) = b | f(b) = c | c != b")
        self.check_rule([7], "factor", (0,), (0, 1), "p(a) | ~p(a) | ~true")
        self.check_rule([6], "factor", (0,), (0, 2), "condition")
        self.check_rule([6], "factor", (0,), (1, 1), "condition")
        self.check_rule([7], "factor", (0,), (0, 2), "condition")
        self.check_rule([7], "factor", (0,), (2, 0), "condition")

    def test_wrong_data(self):
        for rule, good, numbers in [("input", (0,), []), ("swap", (0,), [6]), ("merge", (0, 1), [4]),
                                    ("drop", (0,), [5]),
                                    ("resolve", (0, 0), [2, 10]), ("replace", (0, 1, 0, (1,)), [0, 10]),
                                    ("factor", (0, 1), [6]), ("instance", ((0, A),), [0])]:
            premises = tuple(range(len(numbers)))
            for data in wrong_data(rule, good):
                self.check_rule(numbers, rule, premises, data, "data")
        for side in (True, False, None, "0", -1, 2):
            self.check_rule([0, 10], "replace", (0, 1), (0, 1, side, ()), "data")

    def test_indexes_that_just_exist(self):
        self.check_rule([], "input", (), (len(INPUTS) - 1,), "c != g(f(a),b)")
        self.check_rule([], "input", (), (len(INPUTS),), "data")
        self.check_rule([6], "swap", (0,), (2,), "f(a) = b | f(a) = c | c = f(b)")
        self.check_rule([6], "swap", (0,), (3,), "data")
        self.check_rule([2, 10], "resolve", (0, 1), (1, 0), "data")
        self.check_rule([2, 10], "resolve", (0, 1), (0, 3), "data")
        self.check_rule([10, 2], "resolve", (0, 1), (2, 0), "condition")
        self.check_rule([10, 2], "resolve", (0, 1), (3, 0), "data")

    def test_positions(self):
        for position, answer in [((1, 1), "condition"), ((1, 2), "data"), ((2,), "data"), ((0,), "data"),
                                 ((-1,), "data"),
                                 ((1, 1, 1), "data"), ((True,), "data"), (("1",), "data"), ([1], "data"), (1, "data"),
                                 (None, "data"), (((1,),), "data")]:
            self.check_rule([0, 10], "replace", (0, 1), (0, 0, 0, position), answer)
        self.check_rule([0, 10], "replace", (0, 1), (0, 2, 0, (1,)), "condition")
        self.check_rule([0, 10], "replace", (0, 1), (0, 2, 0, (1, 1)), "data")
        self.check_rule([0, 10], "replace", (0, 1), (0, 2, 1, (1,)), "data")

    def test_variables_of_an_instance(self):
        for variable in (True, False, -1, "X", None, (0,), "0"):
            self.check_rule([0], "instance", (0,), ((variable, A),), "data")
        self.check_rule([0], "instance", (0,), ((0, A), (1, A), (0, A)), "data")
        self.check_rule([0], "instance", (0,), ((10 ** 30, A), (0, 10 ** 30)), "f(X" + "1" + "0" * 30 + ") = a")

    def test_terms_of_an_instance(self):
        for term in (True, False, -1, "X", "a", None, (), ("f", True), ("f", -1), ("f", "X"), (0,), ("f", ()), ["f"],
                     ("f", [A]), (("f",), A), (None,), (True,), nested(60, None)):
            self.check_rule([0], "instance", (0,), ((0, term),), "data")
        self.check_rule([0], "instance", (0,), ((0, ("", ("A b", 0))),), "f((A b(X0))) = a")

    def test_rules_that_do_not_exist(self):
        for rule in ("", "Input", "cut", "instances", "superposition", "rule"):
            self.check_rule([0], rule, (), (), "rule")

    def test_premises(self):
        for premises in ((), (0, 1), (-1,), (2,), (3,), (True,), (False,), (None,), ("0",), ((0,),), ([0],)):
            self.check_rule([0, 1], "swap", premises, (0,), "premise")
        for premises in ((0,), (0, 1, 1), (0, 2), (2, 0), (0, -1), (0, True)):
            self.check_rule([0, 1], "resolve", premises, (0, 0), "premise")
        self.check_rule([0, 1], "input", (0,), (0,), "premise")


def wrong_data(rule, good):
    """Return data that do not have the form of the rule's."""
    found = [good + (0,), good[:-1], ()] if rule != "instance" else [(0,), (A,), ((0,),), ((0, A, A),), ((),), (None,)]
    if rule == "instance":
        return found + [((A, 0),), ([0, A],), ("ab",), ((0, A), 0), ((0, A), (0, B))]
    indexes = 1 if rule in ("input", "swap", "drop") else 2
    for place in range(indexes):
        for value in (-1, 100, True, False, None, "0", (0,), [0], A):
            found.append(good[:place] + (value,) + good[place + 1:])
    if rule == "replace":
        found += [good[:2] + (side,) + good[3:] for side in (2, -1, True, False, None, "0", ())]
    return found


class Forms(unittest.TestCase):
    """Point 99: the reasons and their order."""

    def error(self, step, steps=None):
        before = start(0, 4) if steps is None else steps
        reason = step_error(INPUTS, before + [step], len(before))
        if reason is not None:
            with self.assertRaises(InvalidStep) as caught:
                check(INPUTS, before + [step, step])
            self.assertEqual((caught.exception.place, caught.exception.reason), (len(before), reason))
            self.assertIs(is_refutation(INPUTS, before + [step, step]), False)
        return reason

    def test_steps_that_are_no_steps(self):
        deep = A
        flat = ()
        for _ in range(98):
            deep = ("f", deep)
            flat = (flat,)
        for step in (None, True, 0, 5, "input", (), [], ("input",), ("input", (), (0,)),
                     ("input", (), (0,), INPUTS[0], ()),
                     ["input", (), (0,), INPUTS[0]], (None, (), (0,), INPUTS[0]), (0, (), (0,), INPUTS[0]),
                     (("input",), (), (0,), INPUTS[0]), (True, (), (0,), INPUTS[0]), ("input", [], (0,), INPUTS[0]),
                     ("input", 0, (0,), INPUTS[0]), ("input", (), [0], INPUTS[0]), ("input", (), 0, INPUTS[0]),
                     ("input", (), None, INPUTS[0]), ("input", (), (0,), list(INPUTS[0])), ("input", (), (0,), None),
                     ("input", (), (0,), "f(X0) = a"), ("input", (), (0,), INPUTS[0][0]), ("input", (), (0,), True),
                     deep, flat, [flat], (flat, flat, flat, flat), "f"):
            self.assertEqual(self.error(step), "form", step)

    def test_literals_that_are_no_literals(self):
        for literal in ((), (True, A), (True, A, A, A), [True, A, A], (1, A, A), (0, A, A), (None, A, A),
                        ("True", A, A),
                        (True, True, A), (True, A, False), (True, -1, A), (True, A, "a"), (True, (), A),
                        (True, A, ["a"]),
                        (True, A, ("f", None)), (True, ("f", (0,)), A), (True, ("f", True), A),
                        (True, nested(60, None), A),
                        (True, (A,), A), (True, None, A), A, "abc", None, 5):
            for clause in ((literal,), INPUTS[0] + (literal,)):
                self.assertEqual(self.error(("input", (), (0,), clause)), "form", literal)

    def test_the_first_point_that_fails_counts(self):
        good = [("form", ("swap", (0,), (0,), ((1, A, A),))), ("rule", ("swaps", (9,), (9,), INPUTS[3])),
                ("premise", ("swap", (9,), (9,), INPUTS[3])), ("data", ("swap", (0,), (9,), INPUTS[3])),
                ("condition", ("drop", (0,), (0,), INPUTS[3])), ("conclusion", ("swap", (0,), (0,), INPUTS[3])),
                (None, ("swap", (0,), (0,), read_clause("a = f(X0)")))]
        for reason, step in good:
            self.assertEqual(self.error(step), reason)
        self.assertEqual(self.error(("swaps", (9,), (9,), None)), "form")
        self.assertEqual(self.error(("merge", (0,), (0,), ())), "data")
        self.assertEqual(self.error(("merge", (0, 0), (0,), ())), "premise")

    def test_premises_are_earlier_steps(self):
        steps = start(0)
        for premise, reason in [(0, None), (1, "premise"), (2, "premise"), (-1, "premise"), (True, "premise")]:
            self.assertEqual(self.error(("swap", (premise,), (0,), read_clause("a = f(X0)")), steps), reason)
        self.assertEqual(step_error(INPUTS, [("swap", (0,), (0,), ())], 0), "premise")

    def test_the_step_itself_may_stand_in_the_middle(self):
        steps = start(0, 1) + [None, ("bad",)]
        self.assertIsNone(step_error(INPUTS, steps, 1))
        self.assertEqual(step_error(INPUTS, steps, 2), "form")

    def test_values_nested_in_every_part(self):
        deep = [None]
        for _ in range(90):
            deep = [deep]
        for step, reason in [((deep, (), (), ()), "form"), (("swap", (deep,), (0,), ()), "premise"),
                             (("swap", (0,), (deep,), ()), "data"), (("swap", (0,), (0,), (deep,)), "form"),
                             (("swap", (0,), (0,), ((True, deep, A),)), "form"),
                             (("instance", (0,), ((0, deep),), ()), "data"),
                             (("instance", (0,), (deep,), ()), "data"),
                             (("replace", (0, 1), (0, 0, 0, (deep,)), ()), "data"),
                             (("replace", (0, 1), (0, 0, deep, ()), ()), "data")]:
            self.assertEqual(self.error(step), reason)

    def test_deep_terms(self):
        deep = nested(95)
        steps = start(0) + [("instance", (0,), ((0, deep),), ((True, ("f", deep), A),))]
        self.assertTrue(check(INPUTS, steps))
        self.assertEqual(conclude(INPUTS, steps, "swap", (1,), (0,)), ((True, A, ("f", deep)),))

    def test_a_conclusion_in_other_words(self):
        self.assertEqual(self.error(("input", (), (0,), normal(INPUTS[10]))), "conclusion")
        self.assertEqual(self.error(("input", (), (10,), normal(INPUTS[10]))), "conclusion")
        self.assertEqual(self.error(("input", (), (10,), ())), "conclusion")
        self.assertEqual(self.error(("input", (), (4,), INPUTS[4][::-1])), "conclusion")


REFUTATION = start(0, 3) + [("instance", (0,), ((0, B),), read_clause("f(b) = a")),
                            ("replace", (2, 1), (0, 0, 0, ()), read_clause("a != a")), ("drop", (3,), (0,), ())]


class Refutations(unittest.TestCase):
    """Point 100."""

    def test_the_example(self):
        inputs = [((True, ("f", 0), ("a",)),), ((False, ("f", ("b",)), ("a",)),)]
        steps = [("input", (), (0,), inputs[0]), ("input", (), (1,), inputs[1])]
        self.assertEqual(conclude(inputs, steps, "instance", (0,), ((0, ("b",)),)), ((True, ("f", ("b",)), ("a",)),))
        steps.append(("instance", (0,), ((0, ("b",)),), ((True, ("f", ("b",)), ("a",)),)))
        steps.append(("replace", (2, 1), (0, 0, 0, ()), ((False, ("a",), ("a",)),)))
        steps.append(("drop", (3,), (0,), ()))
        self.assertTrue(is_refutation(inputs, steps))
        self.assertEqual(used_inputs(steps), [0, 1])
        self.assertRaises(InvalidStep, check, inputs, [("drop", (0,), (0,), ())])

    def test_refutations(self):
        self.assertIs(is_refutation(INPUTS, REFUTATION), True)
        self.assertIs(check(INPUTS, REFUTATION), True)
        self.assertIs(is_refutation(INPUTS, []), False)
        self.assertIs(check(INPUTS, []), True)
        for count in range(1, 5):
            self.assertIs(is_refutation(INPUTS, REFUTATION[:count]), False)
        self.assertIs(is_refutation(INPUTS, REFUTATION + start(0)), False)
        self.assertIs(is_refutation([()], [("input", (), (0,), ())]), True)

    def test_one_incorrect_step(self):
        for number in range(5):
            steps = list(REFUTATION)
            steps[number] = (steps[number][0], steps[number][1], (99,), steps[number][3])
            self.assertIs(is_refutation(INPUTS, steps), False)
            with self.assertRaises(InvalidStep) as caught:
                check(INPUTS, steps)
            self.assertEqual((caught.exception.place, caught.exception.reason), (number, "data"))
        self.assertIs(is_refutation(INPUTS, [None] + REFUTATION), False)
        self.assertIs(is_refutation(INPUTS, start(1) + [7, ("input", (), (0,), ())]), False)
        self.assertIs(is_refutation(INPUTS, REFUTATION[:4] + [("drop", (3,), (0,), []), REFUTATION[4]]), False)
        self.assertIs(is_refutation(INPUTS[:2], REFUTATION), False)

    def test_conclusions_hold_where_the_inputs_hold(self):
        choice = random.Random(100)
        made = {}
        for _ in range(60):
            structure = random_structure(choice)
            inputs = [clause for clause in INPUTS if clause_holds(structure, clause)]
            barred = predicates(inputs)
            steps = [("input", (), (number,), clause) for number, clause in enumerate(inputs)]
            for _ in range(400):
                rule, premises, data = random_step(choice, steps)
                try:
                    conclusion = conclude(inputs, steps, rule, premises, data)
                except InvalidStep:
                    continue
                if len(show_clause(conclusion)) < 80:
                    steps.append((rule, premises, data, conclusion))
                    made[rule] = made.get(rule, 0) + 1
                    self.assertTrue(clause_holds(structure, conclusion), (barred, steps[-1]))
            self.assertTrue(check(inputs, steps))
        self.assertEqual(len(made), 7, made)
        self.assertGreater(min(made.values()), 9, made)


def random_structure(choice):
    functions = {"a": {(): 0}, "b": {(): choice.randrange(2)}, "c": {(): choice.randrange(2)},
                 "f": {(k,): choice.randrange(2) for k in (0, 1)},
                 "g": {(j, k): choice.randrange(2) for j in (0, 1) for k in (0, 1)}}
    return Structure(2, functions, {name: {(k,): choice.random() < 0.5 for k in (0, 1)} for name in "pq"})


def random_step(choice, steps):
    """Return a rule with premises and data that are often good."""
    rule = choice.choice(["instance", "swap", "merge", "drop", "resolve", "replace", "factor"])
    premises = tuple(choice.randrange(len(steps)) for _ in range(2 if rule in ("resolve", "replace") else 1))
    rows = [steps[number][3] for number in premises] * 2
    if rule == "instance":
        terms = [A, B, 0, 1, ("f", 0), ("p", A), TRUE]
        return rule, premises, tuple((k, choice.choice(terms)) for k in choice.sample(range(4), choice.randint(1, 3)))
    data = tuple(choice.randrange(len(row) or 1) for row in rows[:1 if rule in ("swap", "drop") else 2])
    if rule == "replace" and rows[1]:
        side = choice.randrange(2)
        data += (side, choice.choice(positions(rows[1][data[1]][1 + side])))
    return rule, premises, data


class Pruning(unittest.TestCase):
    """Point 101."""

    def test_no_steps(self):
        self.assertEqual((needed([]), prune([]), used_inputs([])), ([], [], []))

    def test_steps_that_the_last_one_does_not_need(self):
        steps = start(1, 0, 2, 3) + [("swap", (1,), (0,), read_clause("a = f(X0)"))]
        steps += [("instance", (1,), ((0, B),), read_clause("f(b) = a"))]
        steps += start(5) + [("replace", (5, 3), (0, 0, 0, ()), read_clause("a != a")), ("drop", (7,), (0,), ())]
        self.assertTrue(is_refutation(INPUTS, steps))
        self.assertEqual(needed(steps), [1, 3, 5, 7, 8])
        self.assertEqual(prune(steps), REFUTATION)
        self.assertEqual(used_inputs(steps), [0, 3])
        self.assertEqual(prune(REFUTATION), REFUTATION)

    def test_the_last_step_alone_is_needed(self):
        steps = REFUTATION + start(2)
        self.assertEqual((needed(steps), prune(steps), used_inputs(steps)), ([5], start(2), [2]))

    def test_a_step_that_is_needed_twice(self):
        steps = start(0, 6) + [("factor", (1,), (0, 1), read_clause("f(a) = c | f(b) = c | b != c")),
                               ("replace", (2, 2), (0, 0, 0, ()),
                                read_clause("f(b) = c | b != c | c = c | f(b) = c | b != c"))]
        self.assertTrue(check(INPUTS, steps))
        self.assertEqual(needed(steps), [1, 2, 3])
        self.assertEqual(prune(steps), [steps[1], steps[2][:1] + ((0,),) + steps[2][2:],
                                        steps[3][:1] + ((1, 1),) + steps[3][2:]])
        self.assertTrue(check(INPUTS, prune(steps)))

    def test_an_input_that_is_taken_by_two_steps(self):
        steps = start(7, 2, 7) + [("resolve", (0, 2), (0, 2), read_clause("p(a) | ~p(a) | p(a) | p(a)"))]
        self.assertTrue(check(INPUTS, steps))
        self.assertEqual((needed(steps), used_inputs(steps)), ([0, 2, 3], [7]))
        steps = start(10, 2, 3)[:2] + [("resolve", (1, 0), (0, 0), read_clause("a != b | ~q(X3)"))]
        self.assertEqual((needed(steps), used_inputs(steps)), ([0, 1, 2], [2, 10]))

    def test_nothing_is_changed(self):
        steps = start(1) + [step for step in REFUTATION[:2]]
        before = list(steps)
        prune(steps), needed(steps), used_inputs(steps), is_refutation(INPUTS, steps)
        self.assertEqual(steps, before)
        self.assertIsNot(prune(REFUTATION), REFUTATION)

    def test_many_steps(self):
        steps = start(0)
        for number in range(5000):
            left, right = steps[-1][3][0][1:]
            steps.append(("swap", (number,), (0,), ((True, right, left),)))
        self.assertEqual(len(needed(steps)), 5001)
        self.assertEqual(prune(steps), steps)
        self.assertTrue(check(INPUTS, steps))


if __name__ == "__main__":
    unittest.main()
