"""Points 111 to 116: rewriting terms, critical pairs and completion."""

import itertools
import random
import unittest

from elenchus.completion import complete, converges, critical_pairs, joined, normalize, rewrite
from elenchus.errors import TooLarge
from elenchus.reader import read_term
from elenchus.show import show_term
from elenchus.structures import Structure, clause_holds
from elenchus.terms import positions, replace_at, shift, subterm_at, variables
from elenchus.unify import apply, match, unify
from elenchus.weights import Ordering

ORDERING = Ordering({}, ["a", "b", "c", "d", "f", "g"])


def pair(text):
    left, right = text.split(" = ")
    return read_term(left), read_term(right)


def pairs(*texts):
    return [pair(text) for text in texts]


def shown(rows):
    return [f"{show_term(left)} = {show_term(right)}" for left, right in rows]


def rewrite_by_hand(rules, term):
    for position in positions(term):
        part = subterm_at(term, position)
        for left, right in rules:
            if isinstance(part, tuple) and match(left, part) is not None:
                return replace_at(term, position, apply(match(left, part), right))
    return None


def normal_by_hand(rules, term):
    while rewrite_by_hand(rules, term) is not None:
        term = rewrite_by_hand(rules, term)
    return term


def pairs_by_hand(first, second):
    names = variables(first[0]) + variables(first[1])
    left, right = [shift(side, max(names) + 1 if names else 0) for side in second]
    found = []
    for position in positions(first[0]):
        part = subterm_at(first[0], position)
        if isinstance(part, tuple) and not (position == () and first == second) and unify(part, left) is not None:
            unifier = unify(part, left)
            found.append((apply(unifier, replace_at(first[0], position, right)), apply(unifier, first[1])))
    return found


def complete_by_hand(ordering, equations, steps):
    """Complete as point 115 says, sentence by sentence."""
    rules = []
    equations = list(equations)
    while equations:
        if steps == 0:
            return ("spent", None)
        steps -= 1
        first, *equations = equations
        left, right = [normal_by_hand(rules, side) for side in first]
        if left == right:
            continue
        kind = ordering.compare(left, right)
        if kind not in ("greater", "less"):
            return ("unorientable", (left, right))
        new = (left, right) if kind == "greater" else (right, left)
        equations += [rule for rule in rules if rewrite_by_hand([new], rule[0])]
        others = [rule for rule in rules if not rewrite_by_hand([new], rule[0])]
        rules = [(rule[0], normal_by_hand(others + [new], rule[1])) for rule in others] + [new]
        for rule in rules[:-1]:
            equations += pairs_by_hand(new, rule) + pairs_by_hand(rule, new)
        equations += pairs_by_hand(new, new)
    return ("complete", rules)


class Rewriting(unittest.TestCase):
    """Point 112."""

    def rewritten(self, text, *rules):
        term = rewrite(pairs(*rules), read_term(text))
        return None if term is None else show_term(term)

    def test_the_first_position_in_preorder(self):
        rules = ["a = b", "f(X0) = c", "g(X0, c) = d"]
        self.assertEqual(self.rewritten("g(f(a), f(a))", *rules), "g(c,f(a))")
        self.assertEqual(self.rewritten("g(a, c)", *rules), "d")
        self.assertEqual(self.rewritten("g(h(a), f(b))", *rules), "g(h(b),f(b))")
        self.assertEqual(self.rewritten("g(h(b), f(b))", *rules), "g(h(b),c)")
        self.assertIsNone(self.rewritten("g(h(b), c, d)", *rules))

    def test_the_first_rule_there(self):
        self.assertEqual(self.rewritten("f(a)", "f(X0) = b", "f(a) = c"), "b")
        self.assertEqual(self.rewritten("f(a)", "f(a) = c", "f(X0) = b"), "c")
        self.assertEqual(self.rewritten("f(a)", "f(b) = c", "a = b", "f(X0) = d"), "d")

    def test_variables_are_not_rewritten(self):
        self.assertIsNone(self.rewritten("X0", "f(X0) = X0", "a = b"))
        self.assertIsNone(self.rewritten("g(X3, X3)", "f(X0) = X0"))
        self.assertIsNone(rewrite([(0, ("a",))], 5))
        self.assertEqual(self.rewritten("g(X1, f(X1))", "f(X0) = X0"), "g(X1,X1)")

    def test_variables_that_rules_and_terms_share(self):
        self.assertEqual(self.rewritten("g(X1, f(X0))", "g(X0, X1) = h(X1, X0)"), "h(f(X0),X1)")
        self.assertEqual(self.rewritten("f(g(X1, X0))", "g(X0, X1) = g(X1, X1)"), "f(g(X0,X0))")
        self.assertIsNone(self.rewritten("g(X0, X1)", "g(X0, X0) = a"))
        self.assertEqual(self.rewritten("g(X1, X1)", "g(X0, X0) = f(X0)"), "f(X1)")

    def test_no_rules(self):
        self.assertIsNone(rewrite([], ("a",)))
        self.assertEqual(normalize([], ("f", 3)), ("f", 3))

    def test_normal_forms(self):
        self.assertEqual(normalize([(("f", ("f", 0)), 0)], ("f", ("f", ("f", ("a",))))), ("f", ("a",)))
        rules = pairs("f(f(X0)) = X0", "g(X0, f(X0)) = a", "g(a, X0) = X0")
        self.assertEqual(normalize(rules, read_term("g(g(b, f(b)), f(f(f(c))))")), read_term("f(c)"))
        self.assertEqual(normalize(rules, read_term("g(X1, f(f(f(X1))))")), ("a",))
        self.assertEqual(normalize(rules, 4), 4)

    def test_joined(self):
        rules = pairs("f(f(X0)) = X0", "g(a, X0) = X0")
        self.assertIs(joined(rules, read_term("f(g(a, f(X1)))"), 1), True)
        self.assertIs(joined(rules, read_term("f(X1)"), 1), False)
        self.assertIs(joined([], ("a",), ("a",)), True)
        self.assertIs(joined(rules, 0, 1), False)

    def test_terms_that_do_not_fit(self):
        doubled = [(("f", 0), ("g", 0, 0))]
        wide = ("h",) + (("a",),) * 998
        self.assertEqual(rewrite([(("a",), ("b",))], wide)[1], ("b",))
        self.assertRaises(TooLarge, rewrite, doubled, ("f", wide[:600]))
        self.assertRaises(TooLarge, rewrite, [(("a",), ("k", ("b",), ("b",)))], wide)
        self.assertRaises(TooLarge, normalize, [(("a",), ("f", ("b",)))], wide)
        term = ("a",)
        for _ in range(99):
            term = ("f", term)
        with self.assertRaises(TooLarge) as caught:
            rewrite([(("a",), ("f", ("b",)))], term)
        self.assertEqual(caught.exception.limit, "term")
        self.assertRaises(TooLarge, joined, [(("a",), ("f", ("b",)))], ("a",), term)

    def test_random_terms_as_by_hand(self):
        choice = random.Random(112)
        rules = pairs("f(f(X0)) = X0", "g(X0, f(X0)) = a", "g(a, X0) = X0", "g(X0, g(X1, X0)) = f(X1)", "f(a) = b")
        for _ in range(200):
            some = choice.sample(rules, choice.randint(0, 5))
            term = random_term(choice, 4)
            self.assertEqual(rewrite(some, term), rewrite_by_hand(some, term))
            self.assertEqual(normalize(some, term), normal_by_hand(some, term))


def random_term(choice, depth):
    kind = choice.random()
    if depth == 0 or kind < 0.2:
        return choice.choice([("a",), ("b",), 0, 1])
    if kind < 0.6:
        return ("f", random_term(choice, depth - 1))
    return ("g", random_term(choice, depth - 1), random_term(choice, depth - 1))


class CriticalPairs(unittest.TestCase):
    """Point 113."""

    def test_the_example(self):
        self.assertEqual(critical_pairs((("f", ("f", 0)), 0), (("f", ("f", 0)), 0)), [(("f", 1), ("f", 1))])

    def test_at_the_whole_term_and_below(self):
        self.assertEqual(shown(critical_pairs(pair("f(g(X0)) = a"), pair("f(X0) = b"))), ["b = a"])
        self.assertEqual(shown(critical_pairs(pair("f(X0) = b"), pair("f(g(X0)) = a"))), ["a = b"])
        self.assertEqual(shown(critical_pairs(pair("f(g(X0)) = a"), pair("g(b) = c"))), ["f(c) = a"])
        self.assertEqual(shown(critical_pairs(pair("g(b) = c"), pair("f(g(X0)) = a"))), [])
        self.assertEqual(shown(critical_pairs(pair("g(f(X0), f(a)) = X0"), pair("f(X0) = h(X0)"))),
                         ["g(h(X0),f(a)) = X0", "g(f(X0),h(a)) = X0"])

    def test_preorder(self):
        rule = pair("f(g(f(a), f(f(X0)))) = b")
        found = critical_pairs(rule, pair("f(X0) = c"))
        self.assertEqual(shown(found), ["c = b", "f(g(c,f(f(X0)))) = b", "f(g(f(a),c)) = b", "f(g(f(a),f(c))) = b"])

    def test_a_rule_with_itself(self):
        rule = pair("g(g(X0, X1), X2) = g(X0, g(X1, X2))")
        self.assertEqual(shown(critical_pairs(rule, rule)), ["g(g(X3,g(X4,X1)),X2) = g(g(X3,X4),g(X1,X2))"])
        self.assertEqual(critical_pairs(pair("f(a) = b"), pair("f(a) = b")), [])

    def test_two_variants_of_a_rule(self):
        self.assertEqual(shown(critical_pairs(pair("f(f(X0)) = X0"), pair("f(f(X1)) = X1"))),
                         ["X0 = X0", "f(X2) = f(X2)"])
        self.assertEqual(shown(critical_pairs(pair("f(X0) = a"), pair("f(X1) = a"))), ["a = a"])

    def test_the_same_left_side_with_another_right_side(self):
        self.assertEqual(shown(critical_pairs(pair("f(a) = b"), pair("f(a) = c"))), ["c = b"])

    def test_a_first_rule_without_variables(self):
        self.assertEqual(shown(critical_pairs(pair("f(a) = b"), pair("f(X0) = g(X0, X0)"))), ["g(a,a) = b"])
        self.assertEqual(shown(critical_pairs(pair("g(a, f(b)) = b"), pair("f(X0) = h(X0, X3)"))), ["g(a,h(b,X3)) = b"])

    def test_the_second_rule_is_renamed_apart(self):
        self.assertEqual(shown(critical_pairs(pair("f(X0, f(X4, a)) = X0"), pair("f(X1, X0) = h(X0, X1)"))),
                         ["h(f(X4,a),X0) = X0", "f(X0,h(a,X4)) = X0"])
        self.assertEqual(shown(critical_pairs(pair("g(X0, f(X0)) = X5"), pair("f(g(X0, X1)) = h(X0, X1)"))),
                         ["g(g(X6,X7),h(X6,X7)) = X5"])

    def test_variables_of_the_right_side_alone_count(self):
        self.assertEqual(shown(critical_pairs(pair("f(X0) = X9"), pair("f(g(X0, X1)) = X1"))), ["X11 = X9"])

    def test_a_variable_is_no_place(self):
        self.assertEqual(critical_pairs(pair("g(X0, X1) = X0"), pair("f(X0) = a")), [])

    def test_as_by_hand(self):
        choice = random.Random(113)
        total = 0
        for _ in range(300):
            first = (random_term(choice, 3), random_term(choice, 2))
            second = (random_term(choice, 2), random_term(choice, 2))
            for one, other in ((first, second), (first, first), (second, first)):
                self.assertEqual(critical_pairs(one, other), pairs_by_hand(one, other))
                total += len(critical_pairs(one, other))
        self.assertGreater(total, 100)

    def test_terms_that_do_not_fit(self):
        chain = ("h",) + tuple(part for number in range(12) for part in (number, ("g", number, number)))
        other = ("h",) + tuple(part for number in range(12) for part in (number, number + 1))
        self.assertRaises(TooLarge, critical_pairs, (chain, ("a",)), (other, ("b",)))
        # The unifier fits, but the term with it does not.
        wide = ("k",) + (("a",),) * 500
        self.assertRaises(TooLarge, critical_pairs, (("f", 0), ("h", 0, 0)), (("f", wide), ("b",)))
        self.assertRaises(TooLarge, critical_pairs, (("h", 0, 0, ("f", 0)), ("b",)), (("f", wide), ("b",)))


class Convergence(unittest.TestCase):
    """Point 114."""

    def test_rules_that_converge(self):
        for rules in ([], ["f(f(X0)) = X0"], ["g(X0, a) = X0", "g(a, X0) = X0"], ["f(a) = b", "f(b) = a"],
                      ["g(g(X0, X1), X2) = g(X0, g(X1, X2))"], ["f(f(X0)) = X0", "f(a) = b", "f(b) = a"],
                      ["f(X0) = a", "f(X0) = a"]):
            self.assertIs(converges(ORDERING, pairs(*rules)), True, rules)

    def test_a_left_side_that_is_not_greater(self):
        for rules in (["a = a"], ["a = b"], ["g(X0, X1) = g(X1, X0)"], ["f(X0) = X1"], ["f(f(X0)) = X0", "f(a) = f(b)"],
                      ["f(f(X0)) = X0", "X0 = f(X0)"]):
            self.assertIs(converges(ORDERING, pairs(*rules)), False, rules)

    def test_a_critical_pair_that_is_not_joined(self):
        self.assertFalse(converges(ORDERING, pairs("f(X0) = a", "f(b) = b")))
        self.assertFalse(converges(ORDERING, pairs("f(b) = b", "f(X0) = a")))
        self.assertFalse(converges(ORDERING, pairs("f(f(X0)) = X0", "f(a) = b")))
        self.assertFalse(converges(ORDERING, pairs("g(f(X0), X1) = X1", "f(a) = b")))
        self.assertFalse(converges(ORDERING, pairs("f(a) = b", "g(f(X0), X1) = X1")))
        # The rule overlaps with itself alone.
        self.assertFalse(converges(Ordering({"f": 2}, []), pairs("f(f(X0)) = h(X0)")))

    def test_too_large(self):
        wide = ("h",) + (("a",),) * 998
        self.assertRaises(TooLarge, converges, Ordering({"a": 9, "k": 10000}, []), [
            (("k", ("a",)), wide), (("k", ("a",)), ("b",)), (("a",), ("f", ("b",)))])


class Completion(unittest.TestCase):
    """Point 115."""

    def complete(self, steps, *texts, ordering=ORDERING):
        found = complete(ordering, pairs(*texts), steps)
        self.assertEqual(found, complete_by_hand(ordering, pairs(*texts), steps))
        return (found[0], shown(found[1]) if found[0] == "complete" else found[1])

    def test_the_examples(self):
        ordering = Ordering({}, ["a", "b", "f"])
        self.assertEqual(complete(ordering, [(("f", ("f", 0)), 0), (("f", ("a",)), ("b",))], 20),
                         ("complete", [(("f", ("f", 0)), 0), (("f", ("a",)), ("b",)), (("f", ("b",)), ("a",))]))
        self.assertEqual(complete(ordering, [(("f", 0), ("f", 1))], 20), ("unorientable", (("f", 0), ("f", 1))))

    def test_no_equations_and_no_steps(self):
        self.assertEqual(complete(ORDERING, [], 0), ("complete", []))
        self.assertEqual(complete(ORDERING, [], 5), ("complete", []))
        self.assertEqual(complete(ORDERING, pairs("a = a"), 0), ("spent", None))

    def test_the_greater_side_is_the_left_one(self):
        self.assertEqual(self.complete(9, "a = b"), ("complete", ["b = a"]))
        self.assertEqual(self.complete(9, "b = a"), ("complete", ["b = a"]))

    def test_equal_sides_are_a_step(self):
        self.assertEqual(self.complete(1, "a = a"), ("complete", []))
        self.assertEqual(self.complete(2, "b = a", "b = a"), ("complete", ["b = a"]))
        self.assertEqual(self.complete(1, "b = a", "b = a"), ("spent", None))

    def test_both_sides_are_normalized(self):
        self.assertEqual(self.complete(9, "f(X0) = X0", "g(f(a), b) = f(f(c))"),
                         ("complete", ["f(X0) = X0", "g(a,b) = c"]))
        self.assertEqual(self.complete(9, "f(X0) = X0", "f(a) = f(f(a))"), ("complete", ["f(X0) = X0"]))

    def test_an_equation_that_cannot_be_oriented(self):
        self.assertEqual(self.complete(9, "f(X0) = X0", "g(f(X1), X0) = g(X0, f(X1))"),
                         ("unorientable", pair("g(X1, X0) = g(X0, X1)")))
        self.assertEqual(self.complete(1, "f(X0) = X0", "g(f(X1), X0) = g(X0, f(X1))"), ("spent", None))
        self.assertEqual(self.complete(2, "X0 = X1"), ("unorientable", (0, 1)))
        self.assertEqual(self.complete(9, "b = a", "X7 = X3"), ("unorientable", (7, 3)))

    def test_an_older_rule_that_is_removed(self):
        self.assertEqual(self.complete(9, "f(f(a)) = b", "f(a) = c"), ("complete", ["f(a) = c", "f(c) = b"]))
        self.assertEqual(self.complete(2, "f(f(a)) = b", "f(a) = c"), ("spent", None))
        # Two rules are removed, and become equations in the order of the rules.
        self.assertEqual(self.complete(9, "f(f(a)) = b", "g(f(a), a) = d", "f(a) = c"),
                         ("complete", ["f(a) = c", "f(c) = b", "g(c,a) = d"]))
        self.assertEqual(self.complete(9, "g(f(a), a) = d", "f(f(a)) = b", "f(a) = c"),
                         ("complete", ["f(a) = c", "g(c,a) = d", "f(c) = b"]))
        self.assertEqual(self.complete(9, "f(b) = a", "f(X0) = X0"), ("complete", ["f(X0) = X0", "b = a"]))

    def test_a_right_side_that_is_normalized(self):
        self.assertEqual(self.complete(9, "g(a, a) = f(b)", "f(b) = c"), ("complete", ["g(a,a) = c", "f(b) = c"]))
        # Older rules that are left are used, too, as they were.
        self.assertEqual(self.complete(9, "g(a, a) = f(d)", "d = c", "c = a", ordering=Ordering(
            {"g": 9}, ["a", "b", "c", "d", "f"])), ("complete", ["g(a,a) = f(a)", "d = a", "c = a"]))

    def test_the_order_of_the_critical_pairs(self):
        # With enough critical pairs, the order of the equations decides the order of the rules.
        choice = random.Random(115)
        answers = []
        texts = ["f(f(X0)) = X0", "f(a) = b", "g(X0, a) = X0", "g(a, X0) = X0", "g(f(X0), X0) = a",
                 "f(g(X0, X1)) = g(X1, X0)",
                 "g(g(X0, X1), X2) = g(X0, g(X1, X2))", "g(X0, X0) = X0", "f(b) = c", "g(X0, f(X0)) = a",
                 "f(X0) = g(X0, X0)",
                 "g(f(X0), g(X0, X1)) = X1", "f(f(f(X0))) = f(X0)", "f(f(b)) = d", "g(a, b) = c"]
        for _ in range(150):
            rows = choice.sample(texts, choice.randint(2, 4))
            ordering = Ordering({name: choice.randint(1, 3) for name in "abcdfg" if choice.random() < 0.4},
                                choice.sample("abcdfg", choice.randint(0, 6)))
            for steps in (4, 15):
                answers.append(self.complete(steps, *rows, ordering=ordering)[0])
        self.assertGreater(min(answers.count(kind) for kind in ("complete", "unorientable", "spent")), 20)

    def test_the_steps_that_just_suffice(self):
        rows = pairs("f(f(f(a))) = a", "f(f(f(f(f(a))))) = a", "g(a, b) = f(a)")
        needed = 0
        while complete(ORDERING, rows, needed)[0] == "spent":
            self.assertEqual(complete(ORDERING, rows, needed), ("spent", None))
            needed += 1
        self.assertGreater(needed, 3)
        for steps in range(needed, needed + 4):
            self.assertEqual(complete(ORDERING, rows, steps), complete(ORDERING, rows, needed))

    def test_too_large(self):
        wide = ("h",) + (("a",),) * 900
        self.assertRaises(TooLarge, complete, Ordering({"a": 9}, []), [
            (("a",), ("f", ("b",))), (wide, ("c",))], 20)

    def test_nothing_is_changed(self):
        rows = pairs("f(f(X0)) = X0", "f(a) = b")
        before = list(rows)
        kind, rules = complete(ORDERING, rows, 20)
        normalize(rules, ("f", ("a",)))
        converges(ORDERING, rules)
        self.assertEqual(rows, before)
        rules.clear()
        self.assertNotEqual(complete(ORDERING, rows, 20)[1], [])


class Facts(unittest.TestCase):
    """Point 116."""

    def test_complete_rules_converge(self):
        choice = random.Random(116)
        texts = ["f(f(X0)) = X0", "f(a) = b", "g(X0, a) = X0", "g(a, X0) = X0", "g(f(X0), X0) = a", "f(b) = c",
                 "g(g(X0, X1), X2) = g(X0, g(X1, X2))", "f(f(f(X0))) = f(X0)", "g(a, b) = c"]
        ends = 0
        for _ in range(60):
            rows = pairs(*choice.sample(texts, choice.randint(1, 4)))
            kind, rules = complete(ORDERING, rows, 30)
            if kind == "complete":
                ends += 1
                self.assertTrue(converges(ORDERING, rules))
                for left, right in rows:
                    self.assertTrue(joined(rules, left, right))
        self.assertGreater(ends, 20)

    def test_equations_without_variables(self):
        choice = random.Random(117)
        terms = [("a",), ("b",), ("c",)]
        terms += [("f", term) for term in terms] + [("g", left, right) for left in terms for right in terms]
        for _ in range(40):
            rows = [(choice.choice(terms), choice.choice(terms)) for _ in range(choice.randint(1, 5))]
            ordering = Ordering({name: choice.randint(1, 3) for name in "abcfg"}, choice.sample("abcfg", 5))
            kind, rules = complete(ordering, rows, 500)
            self.assertEqual(kind, "complete")
            self.assertTrue(converges(ordering, rules))
            equal = closure(terms, rows)
            for first, second in itertools.combinations(range(len(terms)), 2):
                self.assertEqual(joined(rules, terms[first], terms[second]), equal[first] == equal[second])

    def test_rules_hold_where_the_equations_do(self):
        choice = random.Random(118)
        texts = ["f(f(X0)) = X0", "f(a) = b", "g(X0, a) = X0", "g(X0, X0) = a", "g(a, b) = f(a)", "f(b) = a"]
        for _ in range(60):
            structure = Structure(2, {"a": {(): 0}, "b": {(): choice.randrange(2)},
                                      "f": {(k,): choice.randrange(2) for k in (0, 1)},
                                      "g": {(j, k): choice.randrange(2) for j in (0, 1) for k in (0, 1)}}, {})
            rows = [row for row in pairs(*texts) if clause_holds(structure, ((True,) + row,))]
            kind, rules = complete(ORDERING, rows, 30)
            for rule in rules if kind == "complete" else []:
                self.assertTrue(clause_holds(structure, ((True,) + rule,)))


def closure(terms, rows):
    """Return the number of the class of each term: equal by the equations and by replacing in applications."""
    kinds = list(range(len(terms)))
    grown = True
    while grown:
        grown = False
        for first, second in itertools.permutations(range(len(terms)), 2):
            one, other = terms[first], terms[second]
            same = (one, other) in rows or (len(one) == len(other) > 1 and one[0] == other[0] and all(
                kinds[terms.index(left)] == kinds[terms.index(right)] for left, right in zip(one[1:], other[1:])))
            if same and kinds[first] != kinds[second]:
                old, new = kinds[first], kinds[second]
                kinds = [new if kind == old else kind for kind in kinds]
                grown = True
    return kinds


if __name__ == "__main__":
    unittest.main()
