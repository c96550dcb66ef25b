"""Points 87 to 95: the prover."""

import copy
import random
import unittest

from elenchus.clauses import clause_weight, is_tautology, normal
from elenchus.equality import factorings, resolutions
from elenchus.errors import InvalidRatio, InvalidSelection, TooLarge, UnknownClause
from elenchus.loop import Prover
from elenchus.passive import Passive
from elenchus.reader import read_clause
from elenchus.saturation import covers, open_inference
from elenchus.show import show_clause
from elenchus.simplify import simplify
from elenchus.structures import Structure, clause_holds
from elenchus.subsumption import subsumes
from elenchus.superposition import superpositions
from elenchus.terms import nesting, size
from elenchus.weights import Ordering

TRUE = ("true",)
ORDERING = Ordering({}, ["a", "b", "c", "f", "g"])


def clauses(*texts):
    return [read_clause(text) for text in texts]


def prover_of(*texts, ordering=ORDERING, **settings):
    prover = Prover(ordering, **settings)
    for text in texts:
        prover.add(read_clause(text) if isinstance(text, str) else text)
    return prover


def shown(prover):
    """Return the rule, the premises and the written clause of each record."""
    return [(rule, premises, show_clause(clause)) for rule, premises, _, clause in prover.history]


def nested(depth, symbol="f"):
    term = ("a",)
    for _ in range(depth - 1):
        term = (symbol, term)
    return term


class Stop(Exception):
    """The prover by hand has an answer."""


class ByHand:
    """A prover that follows points 87 to 94 word for word."""

    def __init__(self, ordering, selection, by_weight, by_age):
        self.ordering = ordering
        self.selection = selection
        self.records = []
        self.active = []
        self.queue = Passive(by_weight=by_weight, by_age=by_age)
        self.answer = None

    def record(self, *row):
        self.records.append(row)
        return len(self.records) - 1

    def wait(self, number):
        self.queue.add(number, clause_weight(self.records[number][3]))

    def end(self, *answer):
        self.answer = answer
        raise Stop

    def add(self, clause):
        number = self.record("input", (), None, normal(clause))
        self.wait(number)
        if not normal(clause):
            self.answer = self.answer or ("refuted", number)
        return number

    def run(self, steps):
        try:
            while self.answer is None:
                if not len(self.queue) and self.look():
                    return ("saturated", self.active)
                if steps == 0:
                    return ("spent", None)
                steps -= 1
                self.step(self.queue.take())
        except Stop:
            pass
        return self.answer

    def look(self):
        rows = [self.records[number][3] for number in self.active]
        for number, (rule, _, _, clause) in enumerate(self.records):
            if rule == "input" and not covers(self.ordering, rows, clause):
                self.wait(number)
                return False
        found = open_inference(self.ordering, self.selection, rows)
        if found is None:
            return True
        premises = 2 if found[0] == "superposition" else 1
        details = found[1 + premises:-1]
        self.conclude(found[0], tuple(self.active[k] for k in found[1:1 + premises]),
                      details[0] if len(details) == 1 else details, found[-1])
        return False

    def conclude(self, rule, premises, details, clause):
        sides = [side for literal in clause for side in literal[1:]]
        if len(clause) > 12 or sum(map(size, sides)) > 120 or max(map(nesting, sides), default=0) > 12:
            self.end("limit", None)
        if not is_tautology(clause):
            number = self.record(rule, premises, details, clause)
            if not clause:
                self.end("refuted", number)
            self.wait(number)

    def simplified(self, number, units):
        result, steps = simplify(self.ordering, self.records[number][3], units)
        if not steps:
            return None
        used = sorted({step[2] for step in steps if step[0] != "clean"})
        return self.record("simplify", (number, *used), steps, normal(result))

    def step(self, number):
        rows = [(other, self.records[other][3]) for other in self.active]
        new = self.simplified(number, [row for row in rows if len(row[1]) == 1])
        number = number if new is None else new
        clause = self.records[number][3]
        if not clause:
            self.end("refuted", number)
        if is_tautology(clause) or any(subsumes(other, clause) for _, other in rows):
            return
        for other, old in rows:
            if subsumes(clause, old):
                self.active.remove(other)
            elif len(clause) == 1:
                new = self.simplified(other, [(number, clause)])
                if new is not None:
                    self.active.remove(other)
                    if not self.records[new][3]:
                        self.end("refuted", new)
                    self.wait(new)
        self.active.append(number)
        self.active.sort()
        self.draw(number, clause)

    def draw(self, number, clause):
        for other in [other for other in self.active if other != number] + [number]:
            for first, second in ((number, other), (other, number)) if other != number else ((number, number),):
                for row in superpositions(self.ordering, self.selection, self.records[first][3],
                                          self.records[second][3]):
                    self.conclude("superposition", (first, second), row[:2], row[2])
        for row in resolutions(self.ordering, self.selection, clause):
            self.conclude("resolution", (number,), row[0], row[1])
        for row in factorings(self.ordering, self.selection, clause):
            self.conclude("factoring", (number,), row[:2], row[2])


def random_case(choice):
    """Return an ordering, settings and clauses."""
    texts = ["f(X0) = X0", "f(a) = b | b = a", "p(X0) | f(X0) = a", "~p(a) | b = a", "p(f(X0)) | ~p(X0)", "p(b)",
             "~p(X0)",
             "f(X0) = f(X1) | p(X0)", "f(f(X0)) = a | X0 = b", "a != b | f(b) = a", "q | ~p(a)", "p(a) | p(X0) | ~q",
             "q | a = b", "f(a) = X0 | X0 != b", "p(a) | ~q", "~q | ~p(b)", "f(b) != a", "g(X0, X1) = g(X1, X0)",
             "g(g(X0, X1), X2) = g(X0, g(X1, X2))", "g(X0, a) = X0", "g(X0, X0) = a | q", "f(X0) != f(b) | q",
             "a = a | q", "b != b | p(f(b))", "r(X0, X1) | ~r(X1, X0)", "r(a, f(X0)) | X0 != a"]
    names = list("abfgpqr")
    ordering = Ordering({name: choice.randint(1, 3) for name in names if choice.random() < 0.4},
                        choice.sample(names, choice.randint(0, 7)))
    settings = {"selection": choice.randint(0, 2), "by_weight": choice.randint(0, 3), "by_age": choice.randint(1, 2)}
    return ordering, settings, clauses(*choice.sample(texts, choice.randint(1, 6)))


class Records(unittest.TestCase):
    """Points 87, 88 and 90."""

    def test_the_examples(self):
        ordering = Ordering({}, ["a", "b", "f"])
        prover = Prover(ordering)
        numbers = [prover.add(clause) for clause in clauses("f(a) = b", "f(X0) = X0", "a != b")]
        self.assertEqual(numbers, [0, 1, 2])
        self.assertEqual(prover.run(10)[0], "refuted")
        prover = Prover(ordering)
        self.assertEqual(prover.add(read_clause("f(a) = b")), 0)
        self.assertEqual(prover.run(0), ("spent", None))
        self.assertEqual(prover.run(1), ("saturated", [0]))

    def test_an_input_is_brought_into_normal_form(self):
        prover = Prover(ORDERING)
        given = ((True, ("p", 4), TRUE), (False, 4, 7), (False, 7, 4), (True, ("p", 4), TRUE))
        self.assertEqual(prover.add(given), 0)
        self.assertEqual(prover.record(0), ("input", (), None, read_clause("p(X0) | X0 != X1")))
        self.assertEqual(prover.history, [prover.record(0)])
        self.assertEqual((prover.active, prover.waiting), ([], [0]))

    def test_equal_inputs_are_two_records(self):
        prover = prover_of("p(a)", "p(a)")
        self.assertEqual((len(prover.history), prover.waiting), (2, [0, 1]))
        self.assertEqual(prover.run(5), ("saturated", [0]))

    def test_a_superposition(self):
        prover = prover_of("~p(X0) | q(X0)", "p(f(a))", selection=1)
        self.assertEqual(prover.run(9), ("saturated", [0, 1, 2]))
        self.assertEqual(prover.history[2:], [("superposition", (1, 0), ((0, 0), (0, 0, ())), read_clause("q(f(a))"))])

    def test_a_resolution(self):
        prover = prover_of("f(X0) != f(a) | q(X0)", selection=1)
        self.assertEqual(prover.run(9), ("saturated", [0, 1]))
        self.assertEqual(prover.record(1), ("resolution", (0,), 0, read_clause("q(a)")))

    def test_a_factoring(self):
        prover = prover_of("p(X0) | p(f(X1))")
        prover.run(1)
        self.assertEqual(prover.history[1:], [("factoring", (0,), ((0, 0), (1, 0)), read_clause("p(f(X0))")),
                                              ("factoring", (0,), ((1, 0), (0, 0)), read_clause("p(f(X0))"))])

    def test_a_simplification_and_its_premises(self):
        prover = prover_of("p(f(g(b, b)), X5) | c = a | q", "a != c", "g(b, X0) = X0", "f(X0) = X0", by_weight=1,
                           by_age=0)
        prover.run(3)
        self.assertEqual(prover.active, [1, 2, 3])
        prover.run(1)
        rule, premises, steps, clause = prover.record(4)
        self.assertEqual((rule, premises, show_clause(clause)), ("simplify", (0, 1, 2, 3), "p(b,X0) | q"))
        self.assertEqual([step[0] for step in steps], ["rewrite", "rewrite", "cut"])
        self.assertEqual(steps, simplify(ORDERING, prover.record(0)[3], list(enumerate(clauses(
            "p(a) | a = b", "a != c", "g(b, X0) = X0", "f(X0) = X0")))[1:])[1])
        self.assertEqual(prover.active, [1, 2, 3, 4])

    def test_a_rule_that_is_used_twice_is_one_premise(self):
        prover = prover_of("f(X0) = X0", "p(f(f(a)), f(b)) | a != a")
        prover.run(2)
        self.assertEqual(shown(prover)[2], ("simplify", (1, 0), "p(a,b)"))
        self.assertEqual([step[0] for step in prover.record(2)[2]], ["clean", "rewrite", "rewrite", "rewrite"])

    def test_a_simplification_that_only_cleans(self):
        prover = prover_of("a != a | p(X3)")
        prover.run(1)
        self.assertEqual(prover.history[1:], [("simplify", (0,), [("clean", read_clause("p(X0)"))],
                                               read_clause("p(X0)"))])
        self.assertEqual(prover.active, [1])

    def test_the_result_of_a_simplification_is_in_normal_form(self):
        prover = prover_of("f(X0) = X0", "X0 != X1 | p(f(X1), X0) | p(X1, X0) | r(X0)", by_weight=0)
        prover.run(2)
        self.assertEqual(show_clause(prover.record(2)[3]), "X0 != X1 | p(X1,X0) | r(X0)")

    def test_add_of_the_empty_clause(self):
        prover = prover_of("p(a)")
        self.assertEqual(prover.add(()), 1)
        self.assertEqual(prover.waiting, [0, 1])
        self.assertEqual(prover.run(0), ("refuted", 1))
        self.assertEqual(prover.run(5), ("refuted", 1))
        self.assertEqual(len(prover.history), 2)


class Steps(unittest.TestCase):
    """Point 91."""

    def test_a_clause_is_simplified_when_it_is_taken(self):
        prover = prover_of("f(X0) = X0", "p(f(a))", by_weight=0)
        prover.run(1)
        self.assertEqual((prover.active, prover.waiting, len(prover.history)), ([0], [1], 2))
        prover.run(1)
        self.assertEqual(prover.active, [0, 2])
        self.assertEqual(shown(prover)[2:], [("simplify", (1, 0), "p(a)")])

    def test_the_rules_are_taken_in_ascending_order(self):
        prover = prover_of("f(X0) = g(c)", "f(a) = b", "p(f(a))", by_weight=1, by_age=1,
                           ordering=Ordering({"f": 9}, []))
        prover.run(1)
        self.assertEqual(prover.active, [1])
        prover.run(1)
        self.assertEqual(prover.active, [0, 1])
        prover.run(1)
        self.assertEqual(shown(prover)[-1], ("simplify", (2, 0), "p(g(c))"))

    def test_a_tautology_is_dropped(self):
        prover = prover_of("p(a) | ~p(a)", "a = a", "f(b) = f(b) | q")
        self.assertEqual(prover.run(3), ("saturated", []))
        self.assertEqual((len(prover.history), prover.waiting), (3, []))

    def test_a_clause_that_an_active_one_subsumes_is_dropped(self):
        prover = prover_of("p(X0) | q", "r | p(a) | q", by_weight=0)
        self.assertEqual(prover.run(2), ("saturated", [0]))
        self.assertEqual(len(prover.history), 2)

    def test_a_clause_that_is_dropped_after_its_simplification(self):
        prover = prover_of("f(X0) = X0", "p(a) | q", "p(f(a)) | r | q", "p(f(b)) | ~p(b)", by_weight=0)
        self.assertEqual(prover.run(4), ("saturated", [0, 1]))
        self.assertEqual(shown(prover)[4:], [("simplify", (2, 0), "p(a) | r | q"),
                                             ("simplify", (3, 0), "p(b) | ~p(b)")])

    def test_an_active_clause_that_is_subsumed_is_removed(self):
        prover = prover_of("p(a) | q", "p(X0)", by_weight=0)
        prover.run(1)
        self.assertEqual(prover.active, [0])
        self.assertEqual(prover.run(1), ("saturated", [1]))
        self.assertEqual(len(prover.history), 2)

    def test_an_active_clause_that_is_simplified_is_removed(self):
        prover = prover_of("p(f(a)) | q", "r(f(b))", "f(X0) = X0", by_weight=0)
        prover.run(2)
        self.assertEqual(prover.active, [0, 1])
        prover.run(1)
        self.assertEqual(prover.active, [2])
        self.assertEqual(shown(prover)[3:5], [("simplify", (0, 2), "p(a) | q"), ("simplify", (1, 2), "r(b)")])
        self.assertEqual(prover.waiting, [3, 4])

    def test_an_active_clause_that_is_cut_is_removed(self):
        prover = prover_of("b = a | q", "a != b", by_weight=0)
        prover.run(2)
        self.assertEqual((prover.active, prover.waiting), ([1], [2]))
        self.assertEqual(prover.record(2), ("simplify", (0, 1), [("cut", read_clause("q"), 1, 0, {})],
                                            read_clause("q")))

    def test_only_clauses_of_one_literal_simplify_active_ones(self):
        prover = prover_of("p(f(a))", "f(X0) = X0 | q", by_weight=0)
        prover.run(2)
        self.assertEqual(prover.active, [0, 1])

    def test_an_active_clause_that_becomes_empty(self):
        prover = prover_of("f(a) != f(b)", "f(X0) = c", by_weight=0, ordering=Ordering({"f": 2}, ["a", "b", "c"]))
        self.assertEqual(prover.run(1), ("spent", None))
        self.assertEqual(prover.run(1), ("refuted", 2))
        self.assertEqual(shown(prover)[-1], ("simplify", (0, 1), "false"))
        self.assertEqual(len(prover.history), 3)

    def test_the_taken_clause_becomes_empty(self):
        prover = prover_of("f(X0) = c", "f(a) != f(b)", by_weight=0, ordering=Ordering({"f": 2}, ["a", "b", "c"]))
        self.assertEqual(prover.run(1), ("spent", None))
        self.assertEqual(prover.run(1)[0], "refuted")
        self.assertEqual(shown(prover)[-1], ("simplify", (1, 0), "false"))

    def test_the_order_in_which_inferences_are_drawn(self):
        # The clause 1 is taken last; all of its literals are maximal.
        prover = prover_of("h(g(X0, X0)) = a", "g(X0, a) = c | g(b, X1) = b | f(h(X2), X3) != f(h(a), X3)",
                           "h(k(g(X0, b))) = a", by_age=0, ordering=Ordering({"g": 5}, ["a", "b", "c", "f", "g"]))
        self.assertEqual(prover.run(2), ("spent", None))
        self.assertEqual((prover.active, len(prover.history)), ([0, 2], 3))
        prover.run(1)
        self.assertEqual(prover.active, [0, 1, 2])
        self.assertEqual([(rule, premises) for rule, premises, _, _ in prover.history[3:]], [
            ("superposition", (1, 0)), ("superposition", (0, 1)), ("superposition", (1, 2)), ("superposition", (2, 1)),
            ("superposition", (1, 1)), ("superposition", (1, 1)), ("resolution", (1,)), ("factoring", (1,))])

    def test_nothing_is_recorded_behind_the_first_empty_conclusion(self):
        prover = prover_of("~p(X0, a)", "~p(X0, c) | q", "~p(X0, c)", "p(b, X0)", by_weight=0)
        self.assertEqual(prover.run(3), ("spent", None))
        self.assertEqual(prover.active, [0, 2])
        self.assertEqual(prover.run(9), ("refuted", 4))
        self.assertEqual(prover.history[4:], [("superposition", (3, 0), ((0, 0), (0, 0, ())), ())])

    def test_nothing_is_recorded_behind_an_active_clause_that_becomes_empty(self):
        prover = prover_of("f(a) != f(b)", "r(f(X0), f(X0)) | s", "f(X0) = c", by_weight=0)
        self.assertEqual(prover.run(2), ("spent", None))
        self.assertEqual(prover.run(9), ("refuted", 3))
        self.assertEqual(shown(prover)[3:], [("simplify", (0, 2), "false")])

    def test_conclusions_that_are_tautologies_are_left_out(self):
        texts = ["q(a) | p(a)", "~q(X0) | ~p(X0)"]
        prover = prover_of(*texts, selection=1)
        self.assertEqual(prover.run(3), ("saturated", [0, 1]))
        found = superpositions(ORDERING, 1, *clauses(*texts))
        self.assertEqual([show_clause(row[2]) for row in found], ["p(a) | ~p(a)"])
        self.assertEqual(len(prover.history), 2)

    def test_a_prover_by_hand(self):
        choice = random.Random(91)
        answers = {}
        rules = set()
        for _ in range(250):
            ordering, settings, rows = random_case(choice)
            prover = Prover(ordering, **settings)
            other = ByHand(ordering, *[settings[name] for name in ("selection", "by_weight", "by_age")])
            for clause in rows:
                self.assertEqual(prover.add(clause), other.add(clause))
            answer = prover.run(15)
            self.assertEqual(answer, other.run(15))
            answers[answer[0]] = answers.get(answer[0], 0) + 1
            if answer[0] != "limit":
                self.assertEqual(prover.history, other.records)
                rules |= {record[0] for record in other.records}
            if answer[0] in ("saturated", "spent"):
                self.assertEqual((prover.active, prover.waiting), (other.active, list(other.queue)))
        self.assertEqual(rules, {"input", "superposition", "resolution", "factoring", "simplify"})
        self.assertEqual(set(answers), {"refuted", "saturated", "spent", "limit"}, answers)


class Limits(unittest.TestCase):
    """Point 89."""

    def literals(self, count, positive=True):
        return tuple((positive, ("p" + str(k),), TRUE) for k in range(count))

    def test_the_literals_of_an_input(self):
        prover = Prover(ORDERING)
        self.assertEqual(prover.add(self.literals(12)), 0)
        with self.assertRaises(TooLarge):
            prover.add(self.literals(13))
        self.assertEqual((len(prover.history), prover.waiting), (1, [0]))

    def test_the_nesting_of_an_input(self):
        prover = Prover(ORDERING)
        for make in (lambda term: (True, term, ("a",)), lambda term: (False, ("a",), term)):
            prover.add((make(nested(12)),))
            self.assertRaises(TooLarge, prover.add, (make(nested(13)),))
        prover.add(((True, ("p", nested(11)), TRUE),))
        self.assertRaises(TooLarge, prover.add, ((True, ("p", nested(12)), TRUE),))
        self.assertEqual(len(prover.history), 3)

    def test_the_symbols_of_an_input(self):
        ten = nested(10)
        eleven = nested(11)
        prover = Prover(ORDERING)
        rows = tuple((True, ten, (symbol, nested(9))) for symbol in "bcdegh")
        self.assertEqual(sum(size(side) for row in rows for side in row[1:]), 120)
        prover.add(rows)
        self.assertRaises(TooLarge, prover.add, rows[1:] + ((True, eleven, ("b", nested(9))),))
        self.assertEqual(len(prover.history), 1)

    def test_the_right_side_of_an_atom_is_one_of_the_sides(self):
        rows = tuple((True, ("p" + str(k), nested(10)), TRUE) for k in range(10))
        self.assertEqual(sum(size(side) for row in rows for side in row[1:]), 120)
        prover = Prover(ORDERING)
        prover.add(rows)
        self.assertRaises(TooLarge, prover.add, rows[1:] + ((True, ("p0", nested(11)), TRUE),))

    def test_the_literals_of_a_conclusion(self):
        for count, answer in [(6, "saturated"), (7, "limit")]:
            first = self.literals(6) + ((True, ("z",), TRUE),)
            second = tuple((False, ("q" + str(k),), TRUE) for k in range(count)) + ((False, ("z",), TRUE),)
            prover = prover_of(first, second, ordering=Ordering({"z": 9}, []))
            self.assertEqual(prover.run(9)[0], answer)
            self.assertEqual(prover.run(9)[0], answer)

    def test_the_nesting_of_a_conclusion(self):
        for depth, answer in [(10, "saturated"), (11, "limit")]:
            prover = prover_of("~p(X0) | q(g(X0))", ((True, ("p", nested(depth)), TRUE),), selection=1)
            self.assertEqual(prover.run(9)[0], answer)

    def test_the_symbols_of_a_conclusion(self):
        # The conclusion has 10 atoms with 11 symbols each beside TRUE, or one more symbol.
        rows = tuple((True, ("q" + str(k), 0), TRUE) for k in range(10))
        for last, answer in [(("q9", 0), "saturated"), (("q9", ("g", 0)), "limit")]:
            given = ((False, ("p", 0), TRUE),) + rows[:9] + ((True, last, TRUE),)
            prover = prover_of(given, ((True, ("p", nested(10)), TRUE),), selection=1)
            self.assertEqual(prover.run(5)[0], answer)

    def test_a_conclusion_that_is_too_large_and_a_tautology(self):
        first = self.literals(6) + ((True, ("z",), TRUE),)
        second = tuple((False, ("q" + str(k),), TRUE) for k in range(6)) + ((False, ("z",), TRUE),
                                                                            (False, ("p0",), TRUE))
        prover = prover_of(first, second, ordering=Ordering({"z": 9}, []))
        self.assertEqual(prover.run(9), ("limit", None))

    def test_an_inference_that_raises(self):
        # X0 = Y0, g(X0, X0) = Y1, X1 = Y1, g(X1, X1) = Y2, ..: the terms double at each level.
        left = tuple(part for k in range(11) for part in (k, ("g", k, k)))
        right = tuple(part for k in range(11) for part in (k, k + 1))
        ordering = Ordering({"p": 9}, [])
        rows = [((True, ("p",) + left, TRUE),), ((False, ("p",) + right, TRUE),)]
        self.assertRaises(TooLarge, superpositions, ordering, 0, *rows)
        prover = prover_of(*rows, ordering=ordering)
        self.assertEqual(prover.run(9), ("limit", None))
        self.assertEqual(prover.run(0), ("limit", None))

    def test_simplifying_has_no_limit(self):
        ordering = Ordering({"k": 50}, ["a", "g", "k"])
        prover = prover_of(((True, ("k", 0), nested_around(0, 9, "g")),), ((True, ("p", ("k", ("k", ("a",)))), TRUE),),
                           ordering=ordering, by_weight=0)
        self.assertEqual(prover.run(9)[0], "saturated")
        self.assertEqual(nesting(prover.record(2)[3][0][1]), 20)


def nested_around(term, depth, symbol):
    for _ in range(depth):
        term = (symbol, term)
    return term


class Looking(unittest.TestCase):
    """Point 92: here f(X0) = f(b) rewrites a clause, and is then subsumed by f(X0) = f(X1), which rewrites nothing."""

    ordering = Ordering({"a": 2, "p": 9}, ["b", "a", "f"])

    def test_an_input_that_is_not_covered(self):
        prover = prover_of("f(X0) = f(b)", "~s | r(f(a))", "c = d", "~t | r(f(a))", selection=1, by_weight=0,
                           ordering=self.ordering)
        self.assertEqual(prover.run(4), ("spent", None))
        self.assertEqual([row[1:] for row in shown(prover)[4:7]], [
            ((0, 0), "f(X0) = f(X1)"), ((1, 0), "~s | r(f(b))"), ((3, 0), "~t | r(f(b))")])
        self.assertEqual(prover.active, [0, 2, 5, 6])
        self.assertEqual(prover.run(1), ("spent", None))
        self.assertEqual((prover.active, prover.waiting), ([2, 4, 5, 6], [7, 8, 9, 10]))
        # The queue is empty behind the last step, and the first input that is not covered waits again.
        self.assertEqual(prover.run(4), ("spent", None))
        self.assertEqual((prover.active, prover.waiting, len(prover.history)), ([2, 4, 5, 6], [1], 11))
        self.assertEqual(prover.run(0), ("spent", None))
        self.assertEqual(prover.waiting, [1])
        self.assertEqual(prover.run(1), ("spent", None))
        self.assertEqual((prover.active, prover.waiting, len(prover.history)), ([1, 2, 4, 5, 6], [3], 11))
        self.assertEqual(prover.run(1), ("saturated", [1, 2, 3, 4, 5, 6]))

    def check_open(self, texts, selection, record):
        """Make sure that the conclusion of the record is drawn again when the queue is empty."""
        prover = prover_of("c = c", *texts, "f(X0) = f(b)", selection=selection, by_weight=0, ordering=self.ordering)
        steps = 0
        while prover.history.count(record) < 2:
            self.assertEqual(prover.run(1), ("spent", None))
            steps += 1
            self.assertLess(steps, 20)
        number = len(prover.history) - 1
        self.assertEqual((prover.record(number), prover.waiting), (record, [number]))
        self.assertNotIn(number, prover.active)
        self.assertEqual(prover.run(0), ("spent", None))
        answer = prover.run(1)
        self.assertEqual((answer[0], number in answer[1]), ("saturated", True))
        # The record before it was simplified.
        first = prover.history.index(record)
        self.assertLess(first, number)
        self.assertEqual([row[0] for row in prover.history if row[1][:1] == (first,)], ["simplify"])

    def test_an_open_superposition(self):
        self.check_open(["q(a)", "~q(X0) | ~s | r(f(X0))"], 1,
                        ("superposition", (1, 2), ((0, 0), (0, 0, ())), read_clause("~s | r(f(a))")))

    def test_an_open_resolution(self):
        self.check_open(["g(X0) != g(a) | ~s | r(f(X0))"], 1, ("resolution", (1,), 0, read_clause("~s | r(f(a))")))

    def test_an_open_factoring(self):
        self.check_open(["p(X0) | p(a) | r(f(X0))"], 0,
                        ("factoring", (1,), ((0, 0), (1, 0)), read_clause("p(a) | r(f(a))")))

    def test_the_ends_of_random_provers(self):
        choice = random.Random(92)
        for _ in range(150):
            ordering, settings, rows = random_case(choice)
            prover = Prover(ordering, **settings)
            for clause in rows:
                prover.add(clause)
            if prover.run(40)[0] == "saturated":
                active = [prover.record(number)[3] for number in prover.active]
                self.assertTrue(all(covers(ordering, active, clause) for clause in rows))
                self.assertIsNone(open_inference(ordering, settings["selection"], active))
                self.assertNotIn((), active)


class Answers(unittest.TestCase):
    """Points 93 and 94."""

    def test_the_four_answers(self):
        self.assertEqual(prover_of("p(a)", "~p(X0)").run(9), ("refuted", 2))
        self.assertEqual(prover_of("p(a)", "q(X0)").run(9), ("saturated", [0, 1]))
        self.assertEqual(prover_of("p(a)", "q(X0)").run(1), ("spent", None))
        self.assertEqual(prover_of("p(a)", "q(X0)").run(2), ("saturated", [0, 1]))
        self.assertEqual(prover_of("p(X0)", "~p(X0) | p(f(X0))", by_weight=0).run(0), ("spent", None))

    def test_no_steps(self):
        self.assertEqual(Prover(ORDERING).run(0), ("saturated", []))
        self.assertEqual(Prover(ORDERING).run(7), ("saturated", []))
        self.assertEqual(prover_of("p(a)").run(0), ("spent", None))
        prover = prover_of("p(a)")
        prover.run(1)
        self.assertEqual(prover.run(0), ("saturated", [0]))

    def test_a_refuted_prover_keeps_its_answer(self):
        prover = prover_of("p(a)", "~p(X0)")
        self.assertEqual(prover.run(9), ("refuted", 2))
        self.assertEqual(prover.add(read_clause("q(a)")), 3)
        self.assertEqual(prover.add(()), 4)
        self.assertEqual(prover.run(9), ("refuted", 2))
        self.assertEqual(prover.record(4)[3], ())
        self.assertEqual(len(prover.history), 5)

    def test_a_limited_prover_keeps_its_answer(self):
        prover = prover_of("~p(X0) | q(g(X0))", ((True, ("p", nested(11)), TRUE),), selection=1)
        self.assertEqual(prover.run(9), ("limit", None))
        count = len(prover.history)
        self.assertEqual(prover.add(()), count)
        self.assertEqual(prover.run(9), ("limit", None))
        self.assertEqual(len(prover.history), count + 1)

    def test_a_saturated_prover_goes_on(self):
        prover = prover_of("p(a)")
        self.assertEqual(prover.run(9), ("saturated", [0]))
        prover.add(read_clause("~p(X0) | q(X0)"))
        self.assertEqual(prover.run(9)[0], "saturated")
        prover.add(read_clause("~q(a)"))
        self.assertEqual(prover.run(9)[0], "refuted")

    def test_the_numbers_of_the_answer_are_a_new_list(self):
        prover = prover_of("p(a)")
        prover.run(9)[1].append(5)
        self.assertEqual(prover.run(9), ("saturated", [0]))

    def test_running_in_two_parts(self):
        choice = random.Random(94)
        for _ in range(60):
            ordering, settings, rows = random_case(choice)
            whole = Prover(ordering, **settings)
            parts = Prover(ordering, **settings)
            for clause in rows:
                whole.add(clause)
                parts.add(clause)
            last = whole.run(12)
            for steps in (0, 3, 1, 0, 2, 6):
                answer = parts.run(steps)
            self.assertEqual(answer, last)
            self.assertEqual(parts.history, whole.history)
            self.assertEqual((parts.active, parts.waiting), (whole.active, whole.waiting))


class Objects(unittest.TestCase):
    """The interface of Prover."""

    def test_wrong_settings(self):
        for wrong in (True, False, None, 3, -1):
            self.assertRaises(InvalidSelection, Prover, ORDERING, selection=wrong)
            self.assertRaises(InvalidSelection, Prover, ORDERING, selection=wrong, by_weight=-1)
        for wrong in (True, False, None, -1, "1"):
            self.assertRaises(InvalidRatio, Prover, ORDERING, by_weight=wrong)
            self.assertRaises(InvalidRatio, Prover, ORDERING, by_age=wrong)
        self.assertRaises(InvalidRatio, Prover, ORDERING, by_weight=0, by_age=0)
        self.assertRaises(TypeError, Prover, ORDERING, 1)

    def test_the_settings_count(self):
        texts = ["p(f(f(a)))", "q(a)", "~p(X0) | r(X0)"]
        light = prover_of(*texts, by_weight=1, by_age=0)
        old = prover_of(*texts, by_weight=0, by_age=1)
        light.run(1)
        old.run(1)
        self.assertEqual((light.active, old.active), ([1], [0]))
        self.assertEqual(prover_of(*texts, selection=1, ordering=Ordering({}, ["p", "r"])).run(9)[1], [0, 1, 2, 3])
        self.assertEqual(prover_of(*texts, selection=0, ordering=Ordering({}, ["p", "r"])).run(9)[1], [0, 1, 2])

    def test_the_ratio_by_default(self):
        texts = ["p(f(f(f(f(f(a))))))", "q(f(f(a)))", "q(f(a))", "q(a)", "q(f(f(f(f(a)))))", "r(f(a), f(a))", "q(b)"]
        prover = prover_of(*texts)
        taken = []
        for _ in texts:
            before = prover.waiting
            prover.run(1)
            taken += [number for number in before if number not in prover.waiting]
        self.assertEqual(taken, [3, 6, 2, 1, 0, 5, 4])

    def test_unknown_records(self):
        prover = prover_of("p(a)", "q(a)")
        self.assertEqual(prover.record(1)[3], read_clause("q(a)"))
        for number in (-1, 2, 100):
            with self.assertRaises(UnknownClause) as caught:
                prover.record(number)
            self.assertEqual(caught.exception.number, number)
        self.assertRaises(UnknownClause, Prover(ORDERING).record, 0)

    def test_copies(self):
        prover = prover_of("f(X0) = X0", "p(f(a))", "q(X0)", by_weight=0)
        prover.run(2)
        history = copy.deepcopy(prover.history)
        for rows in (prover.history, prover.active, prover.waiting):
            rows.clear()
        self.assertEqual(history[3][0], "simplify")
        for record in (prover.record(3), prover.history[3]):
            record[2][0][-1][0] = "changed"
            record[2].append("changed")
        self.assertEqual((prover.history, prover.active, prover.waiting), (history, [0, 3], [2]))

    def test_two_provers_do_not_touch_each_other(self):
        first = prover_of("p(a)")
        second = prover_of("q(a)", "~q(a)")
        self.assertEqual(second.run(9)[0], "refuted")
        self.assertEqual(first.run(9), ("saturated", [0]))
        self.assertEqual(len(first.history), 1)

    def test_properties(self):
        prover = prover_of("p(a)")
        for name in ("history", "active", "waiting"):
            with self.assertRaises(AttributeError):
                setattr(prover, name, [])


class Facts(unittest.TestCase):
    """Point 95."""

    def test_clauses_with_a_structure_are_never_refuted(self):
        choice = random.Random(95)
        tried = 0
        for _ in range(300):
            ordering, settings, rows = random_case(choice)
            structure = Structure(2, {
                "a": {(): 0}, "b": {(): choice.randrange(2)}, "f": {(k,): choice.randrange(2) for k in (0, 1)},
                "g": {(j, k): choice.randrange(2) for j in (0, 1) for k in (0, 1)}}, {
                "p": {(k,): choice.random() < 0.5 for k in (0, 1)}, "q": {(): choice.random() < 0.5},
                "r": {(j, k): choice.random() < 0.5 for j in (0, 1) for k in (0, 1)}})
            rows = [clause for clause in rows if clause_holds(structure, clause)]
            tried += len(rows) > 2
            prover = Prover(ordering, **settings)
            for clause in rows:
                prover.add(clause)
            self.assertNotEqual(prover.run(15)[0], "refuted")
            for record in prover.history:
                self.assertTrue(clause_holds(structure, record[3]))
        self.assertGreater(tried, 20)


if __name__ == "__main__":
    unittest.main()
