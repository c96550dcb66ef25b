"""Points 2, 3 and 4: what the document promises over the whole program."""

import itertools
import random
import unittest

from elenchus.clauses import clause_variables
from elenchus.derivation import check, conclude, is_refutation
from elenchus.errors import ElenchusError, InvalidStep, TooLarge
from elenchus.finder import find_structure
from elenchus.reader import read_clause, read_formula
from elenchus.rewriting import RewritingModel, ground_terms
from elenchus.saturation import covers, open_inference
from elenchus.session import Session
from elenchus.structures import Structure, clause_holds, formula_holds
from elenchus.terms import TRUE, symbols
from elenchus.unify import apply
from elenchus.weights import Ordering

FORMULAS = [
    "all X: p(X) -> q(X)", "some X: p(X)", "all X: ~q(X)", "all X: p(f(X)) <-> ~p(X)", "p(a) | q(b)",
    "all X: f(f(X)) = X",
    "some X: f(X) = X", "all X, Y: f(X) = f(Y) -> X = Y", "a != b", "all X: X = a | X = b", "f(a) = b", "f(b) = b",
    "~p(a)",
    "all X: some Y: r(X, Y)", "some X: all Y: r(X, Y)", "all X, Y: r(X, Y) -> ~r(Y, X)", "all X: r(X, f(X))",
    "some X: ~q(f(X))",
    "all X, Y, Z: r(X, Y) & r(Y, Z) -> r(X, Z)", "p(a) <-> (q(a) <-> p(b))", "all X: q(X) | X = a", "all X: f(X) != X",
    "(some X: q(X)) -> (all X: p(X))", "all X: q(f(X)) -> q(X)", "p(b) -> f(a) = f(b)", "false", "some X, Y: X != Y"]


def random_session(choice, texts):
    """Return a session with the formulas as axioms, and random settings."""
    names = list("abfpqr") + ["sk1", "sk2"]
    session = Session(weights={name: choice.randint(1, 3) for name in names if choice.random() < 0.4},
                      precedence=choice.sample(names, choice.randint(0, 8)), selection=choice.randint(0, 2),
                      by_weight=choice.randint(0, 3), by_age=choice.randint(1, 2))
    for number, text in enumerate(texts):
        session.add(f"axiom n{number}: {text}.")
    return session


def random_structure(choice, size):
    """Return a structure of the size for the symbols of the formulas."""
    row = range(size)
    return Structure(size, {"a": {(): 0}, "b": {(): choice.randrange(size)},
                            "f": {(k,): choice.choice(row) for k in row}}, {
        "p": {(k,): choice.random() < 0.5 for k in row}, "q": {(k,): choice.random() < 0.5 for k in row},
        "r": {(j, k): choice.random() < 0.5 for j in row for k in row}})


class TwoFacts(unittest.TestCase):
    """Point 2."""

    def test_no_axioms_have_both_a_refutation_and_a_saturated_end(self):
        choice = random.Random(2)
        kinds = {"refuted": 0, "saturated": 0, "limit": 0}
        for _ in range(60):
            texts = choice.sample(FORMULAS, choice.randint(1, 5))
            answers = []
            for _ in range(4):
                answer = random_session(choice, texts).attempt(steps=25)
                answers.append(answer[0])
                kinds[answer[0]] += 1
                if answer[0] == "refuted":
                    self.check_refuted(choice, texts, answer)
                if answer[0] == "saturated":
                    self.assertNotIn((), answer[1])
            self.assertFalse("refuted" in answers and "saturated" in answers, texts)
        self.assertGreater(min(kinds.values()), 15, kinds)

    def check_refuted(self, choice, texts, answer):
        """Make sure that the axioms are true in no structure."""
        self.assertTrue(is_refutation(answer[1], answer[2]))
        for size in (1, 2, 2, 2, 3, 3):
            structure = random_structure(choice, size)
            self.assertFalse(all(formula_holds(structure, read_formula(text)) for text in texts))
        for size in (1, 2):
            self.assertNotEqual(find_structure(answer[1], size)[0], "structure")

    def test_axioms_with_a_structure_are_not_refuted(self):
        choice = random.Random(3)
        for _ in range(60):
            structure = random_structure(choice, choice.randint(1, 3))
            texts = [text for text in FORMULAS if formula_holds(structure, read_formula(text))]
            texts = choice.sample(texts, min(len(texts), 5))
            session = random_session(choice, texts)
            self.assertNotEqual(session.attempt(steps=20)[0], "refuted")
            kind, found = session.structure(greatest=structure.size)
            self.assertNotEqual(kind, "none")
            if kind == "structure":
                self.assertTrue(all(formula_holds(found, read_formula(text)) for text in texts))

    def test_an_accepted_derivation_of_the_empty_clause(self):
        choice = random.Random(4)
        inputs = [read_clause(text) for text in ("p(a) | q", "~p(a)", "~q | a != a", "b = a", "~p(b)", "p(b) | p(a)",
                                                 "~q")]
        ends = 0
        for _ in range(60):
            # Inputs, and then steps as they come.
            some = choice.sample(inputs, choice.randint(3, 7))
            steps = [("input", (), (number,), clause) for number, clause in enumerate(some)]
            for _ in range(400):
                rule = choice.choice(["resolve", "replace", "drop", "merge"])
                premises = tuple(choice.randrange(len(steps))
                                 for _ in range(2 if rule in ("resolve", "replace") else 1))
                data = {"drop": (choice.randrange(2),), "merge": (0, 1),
                        "resolve": (choice.randrange(2), choice.randrange(2)),
                        "replace": (0, choice.randrange(2), 0, choice.choice([(), (1,)]))}[rule]
                try:
                    conclusion = conclude(some, steps, rule, premises, data)
                except InvalidStep:
                    continue
                if len(conclusion) < 3:
                    steps.append((rule, premises, data, conclusion))
                if steps[-1][3] == ():
                    break
            self.assertTrue(check(some, steps))
            if is_refutation(some, steps):
                ends += 1
                for size in (1, 2, 3):
                    self.assertEqual(find_structure(some, size)[0], "none")
        self.assertGreater(ends, 5)

    def test_ground_instances_of_a_saturated_list_are_true(self):
        choice = random.Random(5)
        ends = 0
        for _ in range(80):
            session = random_session(choice, choice.sample(FORMULAS, choice.randint(1, 4)))
            answer = session.attempt(steps=25)
            if answer[0] != "saturated" or (False, TRUE, TRUE) in [literal for clause in answer[1]
                                                                   for literal in clause]:
                continue
            ordering, selection = session._ordering, session._selection
            self.assertIsNone(open_inference(ordering, selection, answer[1]))
            model = RewritingModel(ordering, answer[1], selection=selection)
            known = symbols_of(answer[1])
            inputs = [clause for _, clause in session.clauses() if set(symbols_of([clause])) <= set(known)]
            self.assertTrue(all(covers(ordering, answer[1], clause) for clause in inputs))
            terms = [term for term in ground_terms(ordering, answer[1], 4) if term[0] not in "pqr"][:6]
            ends += len(terms) > 2
            for clause in answer[1] + inputs:
                names = clause_variables(clause)
                for row in itertools.product(terms, repeat=len(names)):
                    bound = dict(zip(names, row))
                    instance = tuple((sign, apply(bound, left), apply(bound, right)) for sign, left, right in clause)
                    try:
                        self.assertTrue(model.is_true(instance), instance)
                    except TooLarge:
                        pass
        self.assertGreater(ends, 10)

    def test_the_four_ends(self):
        self.assertEqual(Session().attempt(), ("saturated", []))
        session = Session()
        session.add("axiom one: false.")
        self.assertEqual(session.attempt(), ("refuted", [()], [("input", (), (0,), ())]))
        session = Session()
        session.add("axiom one: p(a). axiom two: all X: p(X) -> p(f(X)).")
        self.assertEqual((session.attempt(steps=3), session.attempt()), (("limit", "steps"), ("limit", "size")))


def symbols_of(rows):
    """Return the symbols of the clauses, that of TRUE included."""
    sides = [side for clause in rows for literal in clause for side in literal[1:]]
    return {symbol for side in sides for symbol, _ in symbols(side)} | {"true"}


class TheSameResults(unittest.TestCase):
    """Points 3 and 4."""

    def test_the_same_calls_give_the_same_results(self):
        for seed in range(12):
            answers = []
            for _ in range(2):
                choice = random.Random(seed)
                session = random_session(choice, choice.sample(FORMULAS, 4))
                answers.append((session.attempt(steps=20), session.structure(greatest=2), session.clauses()))
            self.assertEqual(*answers)

    def test_settings_are_not_changed(self):
        weights, precedence = {"f": 2}, ["b", "a"]
        session = Session(weights=weights, precedence=precedence)
        session.add("axiom one: all X: f(f(X)) = X. axiom two: f(a) = b. goal g: f(b) = a.")
        session.attempt()
        session.structure()
        self.assertEqual((weights, precedence), ({"f": 2}, ["b", "a"]))

    def test_an_error_changes_nothing(self):
        session = Session()
        session.add("axiom one: p(a).")
        before = (session.statements(), session.attempt(), session.structure())
        for call in (lambda: session.add("axiom two: p(a, b)."), lambda: session.add("axiom one: q."), session.pop,
                     lambda: session.add("axiom two"), lambda: session.structure(greatest=0)):
            self.assertRaises(ElenchusError, call)
            self.assertEqual((session.statements(), session.attempt(), session.structure()), before)
        self.assertTrue(issubclass(ElenchusError, ValueError))

    def test_clauses_that_hold_where_the_formulas_do(self):
        choice = random.Random(6)
        for _ in range(40):
            texts = choice.sample(FORMULAS, 3)
            session = random_session(choice, texts)
            kind, structure = session.structure(greatest=2)
            if kind == "structure":
                for _, clause in session.clauses():
                    self.assertTrue(clause_holds(structure, clause))
                for text in texts:
                    self.assertTrue(formula_holds(structure, read_formula(text)))


if __name__ == "__main__":
    unittest.main()
