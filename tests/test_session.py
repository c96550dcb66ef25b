"""Points 117 to 123: sessions."""

import unittest

from elenchus.clausify import clausify
from elenchus.derivation import is_refutation, used_inputs
from elenchus.errors import (ArityError, DuplicateName, InvalidOrdering, InvalidRatio, InvalidSelection,
                             InvalidStructure, KindError, NoLevel, SecondGoal, TextError, TooLarge)
from elenchus.expansion import expand
from elenchus.finder import accepted, find_least
from elenchus.ground import Grounding
from elenchus.loop import Prover
from elenchus.reader import read_formula, read_statements
from elenchus.saturation import covers, open_inference
from elenchus.session import Session
from elenchus.show import show_clause
from elenchus.structures import clause_holds, formula_holds
from elenchus.weights import Ordering

AXIOMS = "axiom one: all X: p(X) -> q(X). axiom two: p(a). axiom three: r(b)."
GROUP = ("axiom assoc: all X, Y, Z: m(m(X, Y), Z) = m(X, m(Y, Z)). axiom left: all X: m(e, X) = X. "
         "axiom inverse: all X: m(i(X), X) = e.")


def session_of(*texts, **settings):
    session = Session(**settings)
    for text in texts:
        session.add(text)
    return session


class Levels(unittest.TestCase):
    """Point 117."""

    def test_the_example(self):
        session = Session()
        session.add(AXIOMS)
        session.push()
        session.add("goal g: q(a).")
        answer = session.attempt()
        self.assertEqual(answer[0], "refuted")
        self.assertEqual(session.support(answer), ["one", "two", "g"])
        session.pop()
        self.assertEqual(session.attempt()[0], "saturated")
        self.assertRaises(NoLevel, session.pop)
        self.assertRaises(DuplicateName, session.add, "axiom one: p(b).")

    def names(self, session):
        return [name for _, name, _ in session.statements()]

    def test_levels_that_are_opened_and_closed(self):
        session = session_of("axiom a1: p.")
        self.assertEqual((session.level, self.names(session)), (0, ["a1"]))
        session.push()
        session.add("axiom a2: q. axiom a3: r.")
        session.push()
        session.push()
        session.add("axiom a4: s.")
        self.assertEqual((session.level, self.names(session)), (3, ["a1", "a2", "a3", "a4"]))
        session.pop()
        self.assertEqual((session.level, self.names(session)), (2, ["a1", "a2", "a3"]))
        session.add("axiom a5: s.")
        session.pop()
        self.assertEqual((session.level, self.names(session)), (1, ["a1", "a2", "a3"]))
        session.add("axiom a6: s.")
        self.assertEqual(self.names(session), ["a1", "a2", "a3", "a6"])
        session.pop()
        self.assertEqual((session.level, self.names(session)), (0, ["a1"]))
        session.add("axiom a7: t.")
        self.assertEqual(self.names(session), ["a1", "a7"])

    def test_the_first_level_cannot_be_closed(self):
        session = session_of("axiom a1: p.")
        for _ in range(2):
            self.assertRaises(NoLevel, session.pop)
        self.assertEqual((session.level, self.names(session)), (0, ["a1"]))
        session.push()
        session.pop()
        self.assertRaises(NoLevel, session.pop)

    def test_statements(self):
        session = session_of("axiom a1: p(b). goal g: all X: p(X).", "axiom a2: q.")
        self.assertEqual(session.statements(), read_statements("axiom a1: p(b). goal g: all X: p(X). axiom a2: q."))
        session.statements().clear()
        self.assertEqual(len(session.statements()), 3)
        self.assertEqual(Session().statements(), [])

    def test_an_empty_text(self):
        session = session_of("", "# nothing\n")
        self.assertEqual(session.statements(), [])

    def test_the_level_is_a_property(self):
        with self.assertRaises(AttributeError):
            Session().level = 3


class Adding(unittest.TestCase):
    """Point 118."""

    def check_refused(self, session, text, error, **attributes):
        before = (session.level, session.statements(), session.clauses())
        with self.assertRaises(error) as caught:
            session.add(text)
        for name, value in attributes.items():
            self.assertEqual(getattr(caught.exception, name), value)
        self.assertEqual((session.level, session.statements(), session.clauses()), before)

    def test_errors_of_the_text(self):
        session = session_of(AXIOMS)
        self.check_refused(session, "axiom n1: p(", TextError, reason="unexpected end")
        self.check_refused(session, "axiom n1: q(c). axiom n1: q(d).", TextError, reason="name already used", column=23)
        self.check_refused(session, "goal n1: q(c). goal n2: q(d).", TextError, reason="second goal")
        self.check_refused(session, "axiom n1: q(X).", TextError, reason="unbound variable")

    def test_names_that_are_there(self):
        session = session_of(AXIOMS, "goal g: q(a).")
        session.push()
        session.add("axiom four: p(c).")
        for name in ("one", "three", "four", "g"):
            self.check_refused(session, f"axiom new: q(b). axiom {name}: p(c).", DuplicateName, name=name)
        self.check_refused(session, "axiom two: q(b). axiom one: p(c).", DuplicateName, name="two")

    def test_a_second_goal(self):
        session = session_of(AXIOMS, "goal g: q(a).")
        self.check_refused(session, "axiom new: q(b). goal h: p(c).", SecondGoal, name="h")
        session = session_of(AXIOMS)
        session.push()
        session.add("goal g: q(a).")
        self.check_refused(session, "goal h: p(c).", SecondGoal, name="h")
        session.pop()
        session.add("goal h: p(c).")
        self.assertEqual(session.statements()[-1][:2], ("goal", "h"))

    def test_symbols_with_two_kinds_or_arities(self):
        session = session_of(AXIOMS)
        self.check_refused(session, "axiom n1: a(b).", KindError, symbol="a")
        self.check_refused(session, "axiom n1: c = p(a).", KindError, symbol="p")
        self.check_refused(session, "axiom n1: p(a, b).", ArityError, symbol="p", expected=1, found=2)
        self.check_refused(session, "axiom n1: q(a(b)).", ArityError, symbol="a", expected=0, found=1)
        self.check_refused(session, "axiom n1: s(c). goal n2: s(c, d).", ArityError, symbol="s", expected=1, found=2)

    def test_a_symbol_of_a_closed_level_is_free(self):
        session = Session()
        session.push()
        session.add("axiom n1: p(a).")
        session.pop()
        session.add("axiom n1: a(p, p).")
        self.assertEqual(len(session.statements()), 1)

    def test_two_errors_in_one_text(self):
        session = session_of(AXIOMS, "goal g: q(a).")
        self.check_refused(session, "axiom one: p(a, b). axiom n1: p(", TextError)
        self.check_refused(session, "axiom n1: p(a, b). axiom one: q(a).", DuplicateName, name="one")
        self.check_refused(session, "axiom n1: p(a, b). goal h: q(a).", SecondGoal, name="h")
        self.check_refused(session, "goal one: q(a).", DuplicateName, name="one")
        self.check_refused(session, "goal h: q(a). axiom one: q(a).", SecondGoal, name="h")
        self.check_refused(session, "axiom two: q(a). goal h: q(a).", DuplicateName, name="two")
        self.check_refused(session, "axiom n1: q(a, a). axiom n2: a(b).", ArityError, symbol="q")
        self.check_refused(session, "axiom n2: a(b). axiom n1: q(a, a).", KindError, symbol="a")

    def test_earlier_formulas_come_first_in_the_signature(self):
        session = session_of("axiom one: p(f(a)).")
        self.check_refused(session, "axiom two: p(f(a, a)).", ArityError, symbol="f", expected=1, found=2)

    def test_a_name_can_be_used_again(self):
        session = Session()
        for text in ("axiom one: p.", "goal one: q.", "axiom one: r."):
            session.push()
            session.add(text)
            session.pop()
        session.add("axiom one: s.")
        self.assertEqual([name for name, _ in session.clauses()], ["one"])


class Clauses(unittest.TestCase):
    """Point 119."""

    def shown(self, session):
        return [(name, show_clause(clause)) for name, clause in session.clauses()]

    def test_the_negated_goal_comes_last(self):
        session = session_of("axiom one: all X: p(X) -> q(X) & s. goal g: q(a) | s.", "axiom two: p(a).")
        self.assertEqual(self.shown(session), [("one", "~p(X0) | q(X0)"), ("one", "~p(X0) | s"), ("two", "p(a)"),
                                               ("g", "~q(a)"), ("g", "~s")])

    def test_without_a_goal(self):
        self.assertEqual(self.shown(session_of("axiom one: p.")), [("one", "p")])
        self.assertEqual(Session().clauses(), [])

    def test_skolem_functions(self):
        text = "axiom one: some X: p(X). axiom two: q(sk2). goal g: all X: some Y: r(X, Y)."
        session = session_of(text)
        self.assertEqual(self.shown(session), [("one", "p(sk1)"), ("two", "q(sk2)"), ("g", "~r(sk3,X0)")])
        axioms = [("one", read_formula("some X: p(X)")), ("two", read_formula("q(sk2)")),
                  ("g", ("not", read_formula("all X: some Y: r(X, Y)")))]
        self.assertEqual(session.clauses(), clausify(axioms).named_clauses)

    def test_they_depend_on_the_statements_alone(self):
        session = session_of("axiom one: some X: p(X).")
        before = session.clauses()
        session.push()
        session.add("axiom two: some X: q(X, sk1). goal g: some X: p(X).")
        self.assertEqual([text for _, text in self.shown(session)], ["p(sk2)", "q(sk3,sk1)", "~p(X0)"])
        session.pop()
        self.assertEqual(session.clauses(), before)
        session.clauses().clear()
        self.assertEqual(session.clauses(), before)

    def test_a_clause_form_that_is_too_large(self):
        inner = " | ".join(f"(p{number} & q{number})" for number in range(8))
        session = session_of(f"axiom one: {inner}.")
        for call in (session.clauses, session.attempt, session.structure, lambda: session.structure(greatest=0)):
            with self.assertRaises(TooLarge) as caught:
                call()
            self.assertEqual(caught.exception.limit, "clauses")


class Attempts(unittest.TestCase):
    """Points 120 and 121."""

    def test_a_refutation(self):
        session = session_of(AXIOMS, "goal g: q(a).")
        kind, inputs, steps = session.attempt()
        self.assertEqual(kind, "refuted")
        self.assertEqual(inputs, [clause for _, clause in session.clauses()])
        self.assertTrue(is_refutation(inputs, steps))

    def test_axioms_alone_that_are_refuted(self):
        session = session_of("axiom one: all X: p(X). axiom two: q. axiom three: some X: ~p(X).")
        answer = session.attempt()
        self.assertEqual(answer[0], "refuted")
        self.assertTrue(is_refutation(answer[1], answer[2]))
        self.assertEqual(session.support(answer), ["one", "three"])

    def test_a_saturated_end(self):
        session = session_of(AXIOMS, "goal g: q(b).")
        kind, rows = session.attempt()
        self.assertEqual(kind, "saturated")
        self.assertIsNone(open_inference(Ordering({}, []), 1, rows))
        for _, clause in session.clauses():
            self.assertTrue(covers(Ordering({}, []), rows, clause))
        self.assertEqual(Session().attempt(), ("saturated", []))
        self.assertEqual(Session().attempt(steps=0), ("saturated", []))

    def test_the_clauses_of_a_saturated_end_are_in_the_order_of_the_records(self):
        session = session_of("axiom one: all X, Y: p(f(X), f(Y)). axiom two: q. axiom three: ~q | r.")
        self.assertEqual([show_clause(clause) for clause in session.attempt()[1]], ["p(f(X0),f(X1))", "q", "r"])

    def test_both_limits(self):
        session = session_of("axiom one: p(a). axiom two: all X: p(X) -> p(f(X)).")
        self.assertEqual(session.attempt(steps=0), ("limit", "steps"))
        self.assertEqual(session.attempt(steps=5), ("limit", "steps"))
        self.assertEqual(session.attempt(), ("limit", "size"))
        self.assertEqual(session.attempt(steps=1000), ("limit", "size"))

    def test_exactly_a_hundred_steps(self):
        for count, answer in [(100, "saturated"), (101, "limit")]:
            session = session_of(" ".join(f"axiom c{number}: p{number}." for number in range(count)))
            self.assertEqual(session.attempt()[0], answer)
            self.assertEqual(session.attempt(steps=count)[0], "saturated")
            self.assertEqual(session.attempt(steps=count - 1), ("limit", "steps"))

    def test_more_steps(self):
        for texts in ([GROUP, "goal g: all X: m(X, e) = X."], [AXIOMS], [AXIOMS, "goal g: q(a)."],
                      ["axiom one: p(a). axiom two: all X: p(X) -> p(f(X))."]):
            session = session_of(*texts)
            last = session.attempt(steps=70)
            answers = [session.attempt(steps=steps) for steps in range(70)]
            self.assertNotEqual(last, ("limit", "steps"))
            limits = answers.count(("limit", "steps"))
            self.assertEqual(answers, [("limit", "steps")] * limits + [last] * (70 - limits))

    def test_levels_that_were_opened_and_closed_do_not_count(self):
        session = session_of(AXIOMS)
        first = session.attempt()
        session.push()
        session.add("goal g: q(a). axiom more: some X: ~r(X).")
        second = session.attempt()
        session.push()
        session.add("axiom wrong: false.")
        session.attempt()
        session.pop()
        self.assertEqual(session.attempt(), second)
        session.pop()
        self.assertEqual(session.attempt(), first)
        self.assertEqual(session_of(AXIOMS, "goal g: q(a). axiom more: some X: ~r(X).").attempt(), second)

    def test_the_prover_that_runs(self):
        for settings in ({}, {"selection": 0}, {"selection": 2}, {"by_weight": 0}, {"by_age": 7, "by_weight": 1},
                         {"weights": {"i": 3, "m": 2}}, {"precedence": ["m", "e", "i"]},
                         {"precedence": ("i", "m", "e")}):
            session = session_of(GROUP, "goal g: all X: m(X, i(X)) = e.", **settings)
            prover = Prover(Ordering(settings.get("weights", {}), list(settings.get("precedence", []))),
                            selection=settings.get("selection", 1), by_weight=settings.get("by_weight", 4),
                            by_age=settings.get("by_age", 1))
            inputs = [clause for _, clause in session.clauses()]
            for clause in inputs:
                prover.add(clause)
            answer = prover.run(60)
            found = session.attempt(steps=60)
            if answer[0] == "refuted":
                self.assertEqual(found[:2], ("refuted", inputs))
                self.assertTrue(is_refutation(inputs, found[2]))
                self.assertEqual(used_inputs(found[2]), used_inputs(expand(inputs, prover.history, answer[1])))
            else:
                self.assertEqual((answer, found), (("spent", None), ("limit", "steps")))

    def test_settings_that_change_the_answer(self):
        text = "axiom one: p(f(a)). axiom two: all X: p(X) -> q(X). axiom three: b = c."
        shown = []
        for settings in ({}, {"selection": 0, "precedence": ["p", "q"]}):
            shown.append([show_clause(clause) for clause in session_of(text, **settings).attempt()[1]])
        self.assertIn("q(f(a))", shown[0])
        self.assertNotIn("q(f(a))", shown[1])
        text = "axiom one: f(b) = a. axiom two: b = c."
        for settings, rows in [({}, ["f(b) = a", "b = c"]), ({"precedence": ["c", "b"]}, ["b = c", "f(c) = a"]),
                               ({"precedence": ("c", "b")}, ["b = c", "f(c) = a"]),
                               ({"weights": {"b": 2}}, ["b = c", "f(c) = a"])]:
            found = session_of(text, **settings).attempt()
            self.assertEqual([show_clause(clause) for clause in found[1]], rows)
        text = ("axiom one: p(f(f(f(a)))). axiom two: ~p(f(f(f(a)))). axiom three: q(a). axiom four: r(a). "
                "axiom five: s(a).")
        needed = []
        for settings in ({}, {"by_weight": 0}, {"by_age": 0}, {"by_weight": 1}):
            session = session_of(text, **settings)
            needed.append([session.attempt(steps=steps)[0] for steps in range(9)].index("refuted"))
        self.assertEqual(needed, [5, 2, 5, 4])

    def test_settings_are_copied(self):
        weights = {"b": 2}
        precedence = ["a", "b"]
        session = session_of("axiom one: a = b.", weights=weights, precedence=precedence)
        answer = session.attempt()
        weights["a"] = 9
        precedence.reverse()
        self.assertEqual(session.attempt(), answer)

    def test_wrong_settings_in_their_order(self):
        for settings, error in [
                ({"weights": {"f": 0}, "precedence": ["a", "a"], "selection": 7, "by_age": -1}, InvalidOrdering),
                ({"precedence": ["a", "a"], "selection": 7, "by_age": -1}, InvalidOrdering),
                ({"precedence": ("true",)}, InvalidOrdering), ({"weights": {"f": True}}, InvalidOrdering),
                ({"selection": 7, "by_age": -1}, InvalidSelection), ({"selection": True}, InvalidSelection),
                ({"by_age": -1}, InvalidRatio), ({"by_weight": 0, "by_age": 0}, InvalidRatio),
                ({"by_weight": None}, InvalidRatio)]:
            self.assertRaises(error, Session, **settings)
        self.assertRaises(TypeError, Session, {})

    def test_a_clause_that_is_too_large(self):
        session = session_of("axiom one: " + " | ".join(f"p{number}" for number in range(13)) + ".")
        self.assertRaises(TooLarge, session.attempt)
        self.assertRaises(TooLarge, session.attempt, steps=0)
        self.assertEqual(len(session.clauses()), 1)
        session = session_of("axiom one: " + " | ".join(f"p{number}" for number in range(12)) + ".")
        self.assertEqual(session.attempt()[0], "saturated")

    def test_goals_that_follow_and_goals_that_do_not(self):
        for axioms, goal, kind in [
                ("axiom one: all X: some Y: r(X, Y).", "some X, Y: r(X, Y)", "refuted"),
                ("axiom one: some X: all Y: r(X, Y).", "all Y: some X: r(X, Y)", "refuted"),
                ("axiom one: all Y: some X: r(X, Y).", "some X: all Y: r(X, Y)", "saturated"),
                ("axiom one: p | q.", "q | p", "refuted"), ("axiom one: p | q.", "p", "saturated"),
                ("", "all X: p(X) | ~p(X)", "refuted"), ("", "some X: p(X) -> (all Y: p(Y))", "refuted"),
                ("axiom one: all X: f(f(X)) = X.", "all X, Y: f(X) = f(Y) -> X = Y", "refuted"),
                ("axiom one: all X: f(X) = f(f(X)).", "all X: f(X) = X", "saturated"),
                ("axiom one: a = b.", "f(a) = f(b)", "refuted"), ("axiom one: f(a) = f(b).", "a = b", "saturated"),
                ("axiom one: false.", "p", "refuted"), ("axiom one: true.", "p", "saturated")]:
            session = session_of(axioms, f"goal g: {goal}.")
            answer = session.attempt()
            self.assertEqual(answer[0], kind, (axioms, goal))
            found = session.structure()
            if kind == "refuted":
                self.assertTrue(is_refutation(answer[1], answer[2]))
                self.assertEqual(found[0], "none")
            elif found[0] == "structure":
                self.assertFalse(formula_holds(found[1], read_formula(goal)))


class Supports(unittest.TestCase):
    """Point 122."""

    def test_the_order_of_the_statements(self):
        session = session_of("goal g: s. axiom one: r -> s. axiom two: q. axiom three: p & (p -> r).")
        answer = session.attempt()
        self.assertEqual(session.support(answer), ["g", "one", "three"])

    def test_clauses_of_several_statements(self):
        session = session_of("axiom one: p(a) & p(b). axiom two: all X: p(X) -> q(X) & s(X). axiom three: ~q(c). "
                             "goal g: q(a) & s(b).")
        answer = session.attempt()
        self.assertEqual(session.support(answer), ["one", "two", "g"])

    def test_a_support_is_enough(self):
        session = session_of(GROUP, "axiom more: all X: h(h(X)) = X. goal g: all X: m(X, e) = X. axiom last: h(a) = b.")
        answer = session.attempt()
        self.assertEqual(answer[0], "refuted")
        names = session.support(answer)
        self.assertEqual(names, ["assoc", "left", "inverse", "g"])
        smaller = session_of(GROUP, "goal g: all X: m(X, e) = X.")
        self.assertEqual(smaller.attempt()[0], "refuted")

    def test_an_empty_clause_alone(self):
        session = session_of("axiom one: p. axiom two: false.")
        self.assertEqual(session.support(session.attempt()), ["two"])

    def test_the_goal_is_not_always_needed(self):
        session = session_of("axiom one: p & ~p. goal g: q.")
        self.assertEqual(session.support(session.attempt()), ["one"])


class Structures(unittest.TestCase):
    """Point 123."""

    def test_a_counterexample_to_the_goal(self):
        session = session_of("axiom one: all X: f(f(X)) = X. goal g: all X: f(X) = X.")
        kind, structure = session.structure()
        self.assertEqual((kind, structure.size), ("structure", 2))
        self.assertTrue(formula_holds(structure, session.statements()[0][2]))
        self.assertFalse(formula_holds(structure, session.statements()[1][2]))
        for _, clause in session.clauses():
            self.assertTrue(clause_holds(structure, clause))

    def test_no_structure(self):
        session = session_of("axiom one: all X: f(f(f(f(X)))) = X. axiom two: all X: f(f(X)) != X.")
        kind, refutations = session.structure()
        self.assertEqual((kind, len(refutations)), ("none", 3))
        inputs = [clause for _, clause in session.clauses()]
        for size, refutation in enumerate(refutations, start=1):
            self.assertTrue(accepted(Grounding(inputs, size).clauses(), refutation))
        self.assertEqual(session.structure(greatest=2), ("none", refutations[:2]))
        self.assertEqual(session.structure(greatest=4)[0], "structure")

    def test_the_limit(self):
        session = session_of("axiom one: all X: f(X) != X.")
        self.assertEqual(session.structure(limit=0), find_least([clause for _, clause in session.clauses()], 3,
                                                                limit=0))
        self.assertEqual(session.structure(greatest=1, limit=0)[0], "none")

    def test_errors(self):
        session = session_of("axiom one: p(a).")
        self.assertRaises(InvalidStructure, session.structure, greatest=0)
        different = " & ".join(f"c{first} != c{second}" for first in range(4) for second in range(first))
        session = session_of(f"axiom one: {different}.",
                             "axiom two: all A, B, C, D, E, F, G, H: p(A, B, C, D, E, F, G, H).")
        self.assertEqual(session.structure()[0], "none")
        self.assertRaises(TooLarge, session.structure, greatest=4)

    def test_no_statements(self):
        kind, structure = Session().structure()
        self.assertEqual((kind, structure.size), ("structure", 1))


if __name__ == "__main__":
    unittest.main()
