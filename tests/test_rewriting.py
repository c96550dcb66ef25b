"""Points 80 to 84: the rewriting model."""

import functools
import itertools
import random
import unittest

from elenchus.clauses import clause_variables
from elenchus.errors import InvalidSelection, TooLarge
from elenchus.loop import Prover
from elenchus.ordering import compare_clauses
from elenchus.reader import read_clause, read_term
from elenchus.rewriting import RewritingModel, ground_terms
from elenchus.saturation import covers, open_inference
from elenchus.selection import selected
from elenchus.show import show_clause, show_term
from elenchus.terms import TRUE, positions, replace_at, subterm_at, symbols
from elenchus.unify import apply
from elenchus.weights import Ordering

ORDERING = Ordering({}, ["a", "b", "c", "f", "g"])
SIGNS = {"greater": 1, "less": -1, "equal": 0}


def clauses(*texts):
    return [read_clause(text) for text in texts]


def shown(terms):
    return [show_term(term) for term in terms]


def shown_rules(rules):
    return [f"{show_term(left)} -> {show_term(right)}" for left, right in rules]


def kinds_by_hand(rows):
    """Return the dicts of the function and the predicate symbols of the clauses with their arities."""
    literals = [literal for clause in rows for literal in clause]
    predicates = {left[0]: len(left) - 1 for _, left, right in literals if right == TRUE and left != TRUE}
    functions = {symbol: arity for literal in literals for side in literal[1:] for symbol, arity in symbols(side)
                 if symbol not in predicates and symbol != "true"}
    if 0 not in functions.values():
        functions[next(f"c{k}" for k in itertools.count() if f"c{k}" not in {**functions, **predicates})] = 0
    return functions, predicates


def terms_by_hand(ordering, rows, weight):
    """Return the sorted ground terms, and the sorted ground terms and atoms, up to a weight."""
    functions, predicates = kinds_by_hand(rows)
    found = {}
    grown = True
    while grown:
        grown = False
        for symbol, arity in functions.items():
            for row in itertools.product(list(found.values()), repeat=arity):
                term = (symbol, *row)
                if ordering.weight(term) <= weight and show_term(term) not in found:
                    found[show_term(term)] = term
                    grown = True
    atoms = [(symbol, *row) for symbol, arity in predicates.items()
             for row in itertools.product(list(found.values()), repeat=arity)]
    key = functools.cmp_to_key(lambda first, second: SIGNS[ordering.compare(first, second)])
    both = list(found.values()) + [atom for atom in atoms if ordering.weight(atom) <= weight]
    return sorted(found.values(), key=key), sorted(both, key=key)


def normal_by_hand(rules, term):
    """Rewrite the last possible place by the last possible rule until there is none."""
    while True:
        places = [(position, right) for position in positions(term) for left, right in rules
                  if subterm_at(term, position) == left]
        if not places:
            return term
        term = replace_at(term, *places[-1])


def true_by_hand(rules, clause):
    return any(positive == (normal_by_hand(rules, left) == normal_by_hand(rules, right))
               for positive, left, right in clause)


def instances_by_hand(rows, terms):
    found = []
    for index, clause in enumerate(rows):
        names = clause_variables(clause)
        for row in itertools.product(terms, repeat=len(names)):
            bound = dict(zip(names, row))
            instance = tuple((sign, apply(bound, left), apply(bound, right)) for sign, left, right in clause)
            found.append((index, instance))
    return found


def rules_by_hand(ordering, rows, selection, weight):
    """Return the rules up to a weight by the definition of point 82, from all instances by terms of that weight."""
    terms, _ = terms_by_hand(ordering, rows, weight)

    def compare(first, second):
        return SIGNS[compare_clauses(ordering, first[1], second[1])] or first[0] - second[0]

    rules = []
    for index, instance in sorted(instances_by_hand(rows, terms), key=functools.cmp_to_key(compare)):
        if selected(ordering, rows[index], selection) is not None or true_by_hand(rules, instance):
            continue
        for place, (positive, *sides) in enumerate(instance):
            for left, right in (sides, sides[::-1]):
                if positive and ordering.compare(left, right) == "greater" and all(
                        compare_clauses(ordering, (other,), (instance[place],)) == "less"
                        for at, other in enumerate(instance) if at != place):
                    rest = [pair for at, other in enumerate(instance) if at != place and other[0]
                            for pair in (other[1:], other[:0:-1]) if pair[0] == left]
                    if normal_by_hand(rules, left) == left and not any(
                            normal_by_hand(rules, pair[1]) == normal_by_hand(rules, right) for pair in rest):
                        rules.append((left, right))
    return [rule for rule in rules if ordering.weight(rule[0]) <= weight]


class GroundTerms(unittest.TestCase):
    """Point 80."""

    def test_the_example(self):
        rows = [((True, ("f", ("a",)), ("b",)), (True, ("a",), ("b",)))]
        self.assertEqual(ground_terms(Ordering({}, ["a", "b", "f"]), rows, 2),
                         [("a",), ("b",), ("f", ("a",)), ("f", ("b",))])

    def test_clauses_without_a_constant(self):
        self.assertEqual(shown(ground_terms(ORDERING, clauses("f(X0) = X0"), 3)), ["c0", "f(c0)", "f(f(c0))"])
        self.assertEqual(shown(ground_terms(ORDERING, [], 5)), ["c0"])
        self.assertEqual(shown(ground_terms(ORDERING, [()], 5)), ["c0"])

    def test_the_first_constant_that_is_free(self):
        for rows, word in [(clauses("c0(X0) = X0"), "c1"), (clauses("c0(X0)"), "c1"), (clauses("p(c0(X0))"), "c1"),
                           (clauses("X1 = X0 | c0(X0, c1(X1))"), "c2"), (clauses("c1(X0) = X0"), "c0"),
                           (clauses("c0 | c1(X0)"), "c2"), (clauses("p(X0) | ~c0"), "c1")]:
            self.assertIn(word, shown(ground_terms(ORDERING, rows, 1)), rows)
            self.assertEqual(len([term for term in shown(ground_terms(ORDERING, rows, 1)) if "c" in term]),
                             2 if ("c0",) in ground_terms(ORDERING, rows, 1) and word != "c0" else 1)

    def test_constants_of_the_clauses_are_enough(self):
        self.assertEqual(shown(ground_terms(ORDERING, clauses("f(c0) = X0"), 2)), ["c0", "f(c0)"])
        self.assertEqual(shown(ground_terms(ORDERING, clauses("p(a)"), 2)), ["a", "p(a)"])
        self.assertEqual(shown(ground_terms(ORDERING, clauses("X0 != b | q(X0)"), 1)), ["b"])

    def test_atoms_are_not_arguments(self):
        self.assertEqual(shown(ground_terms(Ordering({}, ["a", "f", "p", "q"]), clauses("p(f(a)) | q"), 3)),
                         ["a", "q", "f(a)", "p(a)", "f(f(a))", "p(f(a))"])

    def test_true_is_no_ground_atom(self):
        self.assertEqual(shown(ground_terms(ORDERING, clauses("~true | p(a)", "true"), 2)), ["a", "p(a)"])

    def test_the_order_and_the_weights(self):
        ordering = Ordering({"f": 2, "b": 3, "p": 2}, ["p", "g", "a"])
        rows = clauses("g(f(a), b) = X0 | p(X0)")
        for weight in range(9):
            self.assertEqual(ground_terms(ordering, rows, weight), terms_by_hand(ordering, rows, weight)[1])

    def test_random_symbols_and_weights_as_by_hand(self):
        choice = random.Random(80)
        texts = ["f(X0) = X0", "g(X0, X1) = a", "p(X0) | q", "h(X0, X1, X2) != b", "p(b)", "r(c, X0)", "f(f(c)) = c"]
        for _ in range(60):
            rows = clauses(*choice.sample(texts, choice.randint(0, 4)))
            names = list("abcfghpqr") + ["c0"]
            ordering = Ordering({name: choice.randint(1, 4) for name in names if choice.random() < 0.5},
                                choice.sample(names, choice.randint(0, 6)))
            for weight in (0, 1, 3, 4):
                self.assertEqual(ground_terms(ordering, rows, weight), terms_by_hand(ordering, rows, weight)[1])

    def test_weights_without_terms(self):
        for weight in (0, -1, 2):
            self.assertEqual(ground_terms(Ordering({"a": 3}, []), clauses("f(a) = a"), weight), [])
        self.assertEqual(len(ground_terms(Ordering({"a": 3}, []), clauses("f(a) = a"), 3)), 1)

    def test_500_terms_and_one_more(self):
        rows = clauses("f(a) = a")
        self.assertEqual(len(ground_terms(ORDERING, rows, 500)), 500)
        with self.assertRaises(TooLarge) as caught:
            ground_terms(ORDERING, rows, 501)
        self.assertEqual(caught.exception.limit, "terms")
        # Atoms count as well: here are 250 of each.
        rows = clauses("p(f(a))")
        self.assertEqual(len(ground_terms(Ordering({"p": 1}, []), rows, 250)), 499)
        self.assertRaises(TooLarge, ground_terms, ORDERING, rows, 251)

    def test_500_terms_of_one_weight_and_one_more(self):
        names = [f"c{number}" for number in range(500)]
        rows = [tuple((True, (name,), 0) for name in names)]
        self.assertEqual(len(ground_terms(ORDERING, rows, 1)), 500)
        self.assertRaises(TooLarge, ground_terms, ORDERING, rows + clauses("d = a"), 1)
        self.assertRaises(TooLarge, ground_terms, ORDERING, rows + clauses("p"), 1)

    def test_many_arguments_and_great_weights(self):
        rows = [((True, ("h",) + (("a",),) * 8, ("b",)),)]
        self.assertEqual(len(ground_terms(ORDERING, rows, 9)), 2 + 2 ** 8)
        self.assertRaises(TooLarge, ground_terms, ORDERING, rows, 10 ** 30)
        large = 10 ** 20
        ordering = Ordering({"f": large}, [])
        self.assertEqual(len(ground_terms(ordering, clauses("f(a) = a"), 400 * large)), 400)
        self.assertEqual(shown(ground_terms(ORDERING, clauses("a = b"), large)), ["a", "b"])


class Rules(unittest.TestCase):
    """Point 82, condition by condition."""

    def test_the_example(self):
        rows = [((True, ("f", ("a",)), ("b",)), (True, ("a",), ("b",)))]
        model = RewritingModel(Ordering({}, ["a", "b", "f"]), rows)
        self.assertEqual(model.rules(2), [(("f", ("a",)), ("b",))])
        self.assertTrue(model.is_true(((True, ("f", ("f", ("a",))), ("f", ("b",))),)))

    def rules(self, *texts, weight=3, selection=0, ordering=ORDERING):
        rows = clauses(*texts)
        found = RewritingModel(ordering, rows, selection=selection).rules(weight)
        self.assertEqual(found, rules_by_hand(ordering, rows, selection, weight))
        return shown_rules(found)

    def test_a_clause_with_a_selected_literal_produces_nothing(self):
        self.assertEqual(self.rules("f(a) = a | b != c"), [])
        self.assertEqual(self.rules("f(a) = a | b != b", weight=2), ["f(a) -> a"])
        self.assertEqual(self.rules("f(a) = a | b != b", weight=2, selection=1), [])
        self.assertEqual(self.rules("f(a) = a | b != b", weight=2, selection=2), ["f(a) -> a"])

    def test_the_sides_in_either_order(self):
        self.assertEqual(self.rules("b = a"), ["b -> a"])
        self.assertEqual(self.rules("a = b"), ["b -> a"])
        self.assertEqual(self.rules("a = a"), [])

    def test_atoms_become_true(self):
        ordering = Ordering({}, ["a", "f", "p", "q"])
        self.assertEqual(self.rules("p(f(a))", "q", ordering=ordering), ["q -> true", "p(f(a)) -> true"])

    def test_a_literal_that_is_not_maximal(self):
        self.assertEqual(self.rules("b = a | f(a) = a", weight=2), ["f(a) -> a"])
        self.assertEqual(self.rules("f(a) != f(b) | b = a", weight=2), [])

    def test_a_literal_that_is_maximal_but_not_strictly(self):
        self.assertEqual(self.rules("b = a | a = b"), [])
        self.assertEqual(self.rules("b = a | b = a"), [])
        self.assertEqual(self.rules("f(a) = a | b = a | a = f(a)", weight=2), [])
        self.assertEqual(self.rules("f(a) = a | b = a | a = f(b)", weight=2), ["f(b) -> a"])
        self.assertEqual(self.rules("p(X0) | p(a)", "b = b", weight=2), ["p(b) -> true"])

    def test_a_negative_literal_that_is_maximal(self):
        self.assertEqual(self.rules("c != b | b = a"), [])

    def test_an_instance_that_is_true_by_an_earlier_rule(self):
        self.assertEqual(self.rules("b = a", "f(b) = f(a)", "c = b | b = a"), ["b -> a"])
        self.assertEqual(self.rules("b = a", "c = b | b != a"), ["b -> a", "c -> b"])
        self.assertEqual(self.rules("c = b | b != a"), [])

    def test_a_left_side_that_is_not_in_normal_form(self):
        self.assertEqual(self.rules("b = a", "f(b) = c", "f(a) = a", weight=2), ["b -> a", "f(a) -> a"])
        self.assertEqual(self.rules("b = a", "f(b) = c", weight=2), ["b -> a"])

    def test_another_literal_with_the_same_left_side(self):
        self.assertEqual(self.rules("b = a", "f(c) = b | f(c) = a", weight=2), ["b -> a"])
        self.assertEqual(self.rules("f(c) = b | f(c) = a", weight=2), ["f(c) -> b"])
        self.assertEqual(self.rules("b = a", "b = f(c) | a = f(c)", weight=2), ["b -> a"])
        self.assertEqual(self.rules("b = a", "f(c) = b | f(c) != a", weight=2), ["b -> a"])

    def test_two_clauses_with_the_same_instance(self):
        self.assertEqual(self.rules("f(X0) = a", "f(a) = X0", weight=2), ["f(a) -> a"])
        self.assertEqual(self.rules("f(a) = a | b != b", "b != b | f(a) = a", weight=2, selection=1), [])
        # The clause with a selected literal comes first among equal instances, and produces nothing.
        ordering = Ordering({}, ["a", "q", "p"])
        self.assertEqual(self.rules("p(a) | ~q(X0)", "q(a)", weight=2, selection=2, ordering=ordering),
                         ["q(a) -> true"])
        self.assertEqual(self.rules("p(a) | ~q(X0)", "p(a) | ~q(a)", "q(a)", weight=2, selection=2, ordering=ordering),
                         ["q(a) -> true", "p(a) -> true"])

    def test_ascending_order(self):
        self.assertEqual(self.rules("f(X0) = X0", "g(X0, X1) = a", weight=3),
                         ["f(a) -> a", "g(a,a) -> a"])
        self.assertEqual(self.rules("f(b) = b", "f(a) = a", "g(X0, a) = a", weight=4),
                         ["f(a) -> a", "f(b) -> b", "g(a,a) -> a", "g(b,a) -> a"])

    def test_random_clauses_as_by_hand(self):
        choice = random.Random(82)
        texts = ["f(X0) = X0", "f(a) = b | b = a", "p(X0) | f(X0) = a", "~p(a) | b = a", "p(f(X0)) | ~p(X0)", "p(b)",
                 "f(X0) = f(X1) | p(X0)", "f(f(X0)) = a | X0 = b", "a != b | f(b) = a", "q | ~p(a)", "p(a) | p(b) | ~q",
                 "q | a = b", "f(a) = X0 | X0 != b", "true | a = b", "~true | f(b) = a", "f(b) = a | f(b) = b"]
        for _ in range(150):
            rows = clauses(*choice.sample(texts, choice.randint(1, 5)))
            names = list("abfpq")
            ordering = Ordering({name: choice.randint(1, 2) for name in names if choice.random() < 0.4},
                                choice.sample(names, choice.randint(0, 5)))
            selection = choice.randint(0, 2)
            model = RewritingModel(ordering, rows, selection=selection)
            for weight in (3, 2, 4):
                self.assertEqual(model.rules(weight), rules_by_hand(ordering, rows, selection, weight))

    def test_no_left_side_contains_another_one(self):
        rows = clauses("f(X0) = X0 | p(X0)", "~p(a)", "g(X0, a) = X0", "p(b) | b = a")
        rules = RewritingModel(ORDERING, rows).rules(5)
        lefts = [left for left, _ in rules]
        self.assertGreater(len(rules), 3)
        for left in lefts:
            inner = [subterm_at(left, position) for position in positions(left)]
            self.assertEqual([other for other in lefts if other in inner], [left])


class NormalForms(unittest.TestCase):
    """Point 81."""

    def setUp(self):
        self.model = RewritingModel(ORDERING, clauses("f(b) = a", "p(a)", "h(X0) = X0", "~q(a)"))

    def normal(self, text):
        return show_term(self.model.normal_form(read_term(text)))

    def test_terms_inside_which_rules_apply(self):
        self.assertEqual(self.normal("a"), "a")
        self.assertEqual(self.normal("h(b)"), "b")
        self.assertEqual(self.normal("f(b)"), "a")
        self.assertEqual(self.normal("f(f(b))"), "f(a)")
        self.assertEqual(self.normal("f(h(b))"), "a")
        self.assertEqual(self.normal("h(f(h(h(b))))"), "a")
        self.assertEqual(self.normal("f(h(f(b)))"), "f(a)")

    def test_atoms(self):
        self.assertEqual(self.normal("p(b)"), "p(b)")
        self.assertEqual(self.normal("p(a)"), "true")
        self.assertEqual(self.normal("p(f(h(b)))"), "true")
        self.assertEqual(self.normal("q(f(b))"), "q(a)")

    def test_true(self):
        self.assertEqual(self.model.normal_form(TRUE), TRUE)

    def test_as_by_hand(self):
        rows = clauses("f(X0) = X0 | p(X0)", "~p(a)", "g(X0, a) = X0", "p(b) | b = a")
        model = RewritingModel(ORDERING, rows)
        rules = model.rules(4)
        _, terms = terms_by_hand(ORDERING, rows, 4)
        for term in terms:
            self.assertEqual(model.normal_form(term), normal_by_hand(rules, term))

    def test_true_clauses(self):
        for text, answer in [("f(b) = a", True), ("f(b) != a", False), ("b = a", False), ("b != a", True),
                             ("p(a)", True),
                             ("~p(a)", False), ("p(b)", False), ("~p(b)", True), ("q(h(a))", False), ("~q(h(a))", True),
                             ("p(f(h(b)))", True), ("f(h(a)) = f(a)", True), ("false", False), ("b = a | p(b)", False),
                             ("b = a | ~p(b)", True), ("b = b | b = a", True), ("true", True), ("~true", False),
                             ("p(b) | true", True), ("a != a | b = a", False)]:
            self.assertIs(self.model.is_true(read_clause(text)), answer, text)

    def test_symbols_that_are_in_no_clause(self):
        for text, answer in [("d = d", True), ("d = a", False), ("k(f(b)) = k(a)", True), ("k(f(b)) = k(b)", False),
                             ("r(f(b))", False), ("~r(f(b))", True)]:
            self.assertIs(self.model.is_true(read_clause(text)), answer, text)


class Models(unittest.TestCase):
    """The interface of RewritingModel, with its limits."""

    def test_a_lower_weight_after_a_higher_one(self):
        rows = clauses("f(X0) = X0 | p(X0)", "~p(a)", "g(X0, a) = X0", "p(b) | b = a")
        model = RewritingModel(ORDERING, rows)
        for weight in (4, 2, 0, 5, 1, 3, 5, -1):
            self.assertEqual(model.rules(weight), RewritingModel(ORDERING, rows).rules(weight))
            self.assertEqual(model.rules(weight), rules_by_hand(ORDERING, rows, 0, weight) if weight < 5
                             else model.rules(weight))

    def test_lists_that_are_changed_behind_its_back(self):
        rows = clauses("f(X0) = X0", "p(a)")
        model = RewritingModel(ORDERING, rows)
        before = model.rules(3)
        self.assertEqual(shown_rules(before), ["f(a) -> a", "p(a) -> true"])
        model.rules(3).clear()
        model.rules(2).append("x")
        rows.append(read_clause("b = a"))
        self.assertEqual(model.rules(3), before)
        self.assertEqual(shown_rules(model.rules(4)), ["f(a) -> a", "p(a) -> true"])
        self.assertIsNot(model.rules(3), model.rules(3))

    def test_the_limit_of_terms(self):
        model = RewritingModel(ORDERING, clauses("f(a) = a"))
        self.assertEqual(shown_rules(model.rules(500)), ["f(a) -> a"])
        for call in (lambda: model.rules(501), lambda: model.normal_form(deep_term(501)),
                     lambda: model.is_true(((True, ("a",), deep_term(501)),))):
            with self.assertRaises(TooLarge) as caught:
                call()
            self.assertEqual(caught.exception.limit, "terms")
        self.assertEqual(shown_rules(model.rules(4)), ["f(a) -> a"])
        self.assertTrue(model.is_true(((True, ("a",), deep_term(90)), (True, ("a",), TRUE))))

    def test_the_weight_that_counts_is_that_of_the_heaviest_side(self):
        names = [f"c{number}" for number in range(250)]
        rows = [tuple((True, (name,), 0) for name in names), read_clause("f(X0) = X0 | p(X0)")]
        model = RewritingModel(Ordering({"f": 2, "p": 9, "h": 9}, []), rows)
        self.assertEqual(len(ground_terms(Ordering({"f": 2, "p": 9}, []), rows, 3)), 500)
        model.is_true(((True, ("f", ("c1",)), ("c0",)), (False, ("c0",), ("c0",))))
        model.is_true(())
        self.assertRaises(TooLarge, model.is_true, ((True, ("c0",), ("c0",)), (True, ("c1",), ("f", ("f", ("c0",))))))
        self.assertRaises(TooLarge, model.is_true, ((True, ("p", ("c0",)), TRUE),))
        self.assertRaises(TooLarge, model.normal_form, ("p", ("c0",)))
        model.normal_form(("f", ("c0",)))

    def test_the_limit_of_instances(self):
        names = [f"c{number}" for number in range(27)]
        constants = [((True, (name,), (name,)),) for name in names]
        cubes = read_clause("X0 = X1 | X1 = X2")
        # 27 clauses without variables, and 27 ** 3 instances with three of them, are 19710.
        for more in (289, 290):
            rows = constants + [cubes] + [((True, ("c0",), ("c0",)),)] * more
            model = RewritingModel(Ordering({}, []), rows)
            self.assertEqual(model.rules(0), [])
            self.assertEqual(len(model.rules(1)), 25)
        rows.append(((True, ("c0",), ("c0",)),))
        model = RewritingModel(Ordering({}, []), rows)
        for call in (lambda: model.rules(1), lambda: model.normal_form(("c0",)),
                     lambda: model.is_true(((True, ("c0",), ("c1",)),))):
            with self.assertRaises(TooLarge) as caught:
                call()
            self.assertEqual(caught.exception.limit, "instances")
        self.assertEqual(model.rules(0), [])

    def test_instances_of_clauses_that_produce_nothing_count(self):
        names = [f"c{number}" for number in range(28)]
        rows = [tuple((False, (name,), (name,)) for name in names) + ((True, 0, 1), (True, 1, 2))]
        self.assertRaises(TooLarge, RewritingModel(Ordering({}, []), rows, selection=1).rules, 1)
        rows = [tuple((False, (name,), (name,)) for name in names[1:]) + ((True, 0, 1), (True, 1, 2))]
        self.assertEqual(RewritingModel(Ordering({}, []), rows, selection=1).rules(1), [])

    def test_only_ground_terms_stand_for_variables(self):
        # 20 terms, but many atoms: the atoms count for the first limit alone.
        names = [f"c{number}" for number in range(20)]
        rows = [tuple((True, (name,), (name,)) for name in names), read_clause("p(X0, X1) | X0 = X2")]
        model = RewritingModel(Ordering({}, []), rows)
        self.assertEqual(len(ground_terms(Ordering({}, []), rows, 3)), 420)
        self.assertEqual(len(model.rules(3)), 400)

    def test_terms_are_counted_before_instances(self):
        rows = clauses("f(a) = X0 | X1 = X2 | X3 = X4 | X5 = X6 | X7 = X8")
        with self.assertRaises(TooLarge) as caught:
            RewritingModel(ORDERING, rows).rules(501)
        self.assertEqual(caught.exception.limit, "terms")
        with self.assertRaises(TooLarge) as caught:
            RewritingModel(ORDERING, rows).rules(500)
        self.assertEqual(caught.exception.limit, "instances")

    def test_wrong_selections(self):
        for rows in ([], clauses("p(a)")):
            for wrong in (True, False, None, 3, -1):
                self.assertRaises(InvalidSelection, RewritingModel, ORDERING, rows, selection=wrong)
        self.assertRaises(TypeError, RewritingModel, ORDERING, [], 1)

    def test_no_clauses_and_the_empty_clause(self):
        for rows in ([], [()]):
            model = RewritingModel(ORDERING, rows)
            self.assertEqual(model.rules(5), [])
            self.assertEqual(model.normal_form(("c0",)), ("c0",))


def deep_term(weight):
    """Return f(f(..f(a)..)) of this weight."""
    term = ("a",)
    for _ in range(weight - 1):
        term = ("f", term)
    return term


class SaturatedLists(unittest.TestCase):
    """Point 84."""

    def check_instances(self, ordering, selection, rows, others, weight):
        """Make sure that all ground instances of the clauses, up to a weight of the terms for variables, are true."""
        model = RewritingModel(ordering, rows, selection=selection)
        terms, _ = terms_by_hand(ordering, rows, weight)
        for _, instance in instances_by_hand(rows + others, terms):
            self.assertTrue(model.is_true(instance), (rows, instance))

    def test_a_saturated_list(self):
        rows = clauses("f(f(X0)) = X0", "f(a) = b", "f(b) = a", "p(a)", "~p(b)", "~p(X0) | p(f(f(X0)))")
        for selection in (0, 1, 2):
            self.assertIsNone(open_inference(ORDERING, selection, rows))
            covered = clauses("p(f(b)) | ~p(f(X0))", "f(f(f(X0))) = f(X0)")
            for clause in covered:
                self.assertTrue(covers(ORDERING, rows, clause))
            self.check_instances(ORDERING, selection, rows, covered, 4)

    def test_the_ends_of_random_provers(self):
        choice = random.Random(84)
        texts = ["f(X0) = X0", "f(a) = b | b = a", "p(X0) | f(X0) = a", "~p(a) | b = a", "p(f(X0)) | ~p(X0)", "p(b)",
                 "f(X0) = f(X1) | p(X0)", "f(f(X0)) = a | X0 = b", "a != b | f(b) = a", "q | ~p(a)", "p(a) | p(b) | ~q",
                 "q | a = b", "f(a) = X0 | X0 != b", "p(a) | ~q", "~q | ~p(b)", "f(b) != a"]
        ends = 0
        for _ in range(80):
            inputs = clauses("a = a | b = b | p(f(a)) | q", *choice.sample(texts, choice.randint(1, 5)))
            names = list("abfpq")
            ordering = Ordering({name: choice.randint(1, 2) for name in names if choice.random() < 0.4},
                                choice.sample(names, choice.randint(0, 5)))
            selection = choice.randint(0, 2)
            prover = Prover(ordering, selection=selection)
            for clause in inputs:
                prover.add(clause)
            answer = prover.run(60)
            if answer[0] == "saturated":
                rows = [prover.record(number)[3] for number in answer[1]]
                self.assertTrue(all(covers(ordering, rows, clause) for clause in inputs))
                # The point speaks of ground instances by the symbols of the active clauses.
                known = kinds_by_hand(rows)[0]
                inputs = [clause for clause in inputs if all(name in known for name in kinds_by_hand([clause])[0])]
                self.check_instances(ordering, selection, rows, inputs, 3)
                ends += 1
        self.assertGreater(ends, 20)


if __name__ == "__main__":
    unittest.main()
