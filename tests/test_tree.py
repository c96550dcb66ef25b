"""Points 61 to 63: term trees."""

import random
import unittest

from elenchus.errors import TooLarge, UnknownEntry
from elenchus.terms import shift
from elenchus.tree import TermTree
from elenchus.unify import match, unify

A = ("a",)
B = ("b",)
C = ("c",)
RELATIONS = ("generalizations", "instances", "unifiable", "variants")


def tree_of(*terms):
    """Return a tree with these terms; the values count from 0."""
    tree = TermTree()
    for value, term in enumerate(terms):
        tree.add(term, value)
    return tree


def answers(tree, term):
    """Return what the tree answers for a term: generalizations, instances, unifiable, variants."""
    return [getattr(tree, name)(term) for name in RELATIONS]


def answers_by_hand(entries, term):
    """Return the same by looking at each entry alone."""
    general = [value for entry, value in entries if match(entry, term) is not None]
    special = [value for entry, value in entries if match(term, entry) is not None]
    both = [value for entry, value in entries if unify(term, shift(entry, 100)) is not None]
    variants = [value for entry, value in entries
                if match(entry, term) is not None and match(term, entry) is not None]
    return [general, special, both, variants]


def path_beginnings(term):
    """Return all beginnings of the path of a term, by the definition."""
    def path(part):
        if not isinstance(part, tuple):
            return ["*"]
        return [f"{part[0]}/{len(part) - 1}"] + [step for argument in part[1:] for step in path(argument)]
    steps = path(term)
    return [tuple(steps[:count]) for count in range(len(steps) + 1)]


def nodes_by_hand(terms):
    return len({beginning for term in terms for beginning in path_beginnings(term)} | {()})


def random_term(source, depth):
    choice = source.randrange(6 if depth else 4)
    if choice < 2:
        return source.randrange(3)
    if choice < 4:
        return A if choice == 2 else B
    if choice == 4:
        return ("f", random_term(source, depth - 1))
    return ("g", random_term(source, depth - 1), random_term(source, depth - 1))


class Relations(unittest.TestCase):
    """Points 61 and 62."""

    def test_the_example(self):
        tree = TermTree()
        tree.add(("f", 0, A), 1)
        tree.add(("f", 0, 0), 2)
        tree.add(("f", B, 5), 3)
        self.assertEqual(tree.generalizations(("f", B, A)), [1, 3])
        self.assertEqual(tree.instances(("f", 7, 8)), [1, 2, 3])
        self.assertEqual(tree.unifiable(("f", C, 0)), [1, 2])
        self.assertEqual(tree.node_count, 7)
        with self.assertRaises(UnknownEntry):
            tree.discard(("f", 0, 0), 3)

    def test_an_empty_tree(self):
        tree = TermTree()
        for term in (0, A, ("f", 0)):
            self.assertEqual(answers(tree, term), [[], [], [], []])
        self.assertEqual((tree.entries(), tree.node_count), ([], 1))

    def test_equal_entries(self):
        tree = TermTree()
        for value in (5, 2, 5, 5):
            tree.add(("f", 0), value)
        self.assertEqual(answers(tree, ("f", 3)), [[5, 2, 5, 5]] * 4)
        self.assertEqual(tree.entries(), [(("f", 0), 5), (("f", 0), 2), (("f", 0), 5), (("f", 0), 5)])
        tree.discard(("f", 0), 5)
        self.assertEqual(tree.generalizations(("f", A)), [2, 5, 5])
        tree.discard(("f", 0), 5)
        self.assertEqual(tree.generalizations(("f", A)), [2, 5])

    def test_the_order_of_adding(self):
        tree = TermTree()
        for value, term in [(9, ("f", A)), (3, 0), (7, ("f", 1)), (1, ("f", A)), (4, 5)]:
            tree.add(term, value)
        self.assertEqual(tree.generalizations(("f", A)), [9, 3, 7, 1, 4])
        self.assertEqual(tree.instances(0), [9, 3, 7, 1, 4])
        self.assertEqual(tree.unifiable(("f", 0)), [9, 3, 7, 1, 4])
        tree.discard(0, 3)
        tree.add(0, 3)
        self.assertEqual(tree.generalizations(("f", A)), [9, 7, 1, 4, 3])
        self.assertEqual([value for _, value in tree.entries()], [9, 7, 1, 4, 3])

    def test_negative_and_great_values(self):
        tree = TermTree()
        for value in (-3, 0, 10 ** 30):
            tree.add(A, value)
        self.assertEqual(tree.instances(0), [-3, 0, 10 ** 30])

    def test_variables_that_occur_several_times(self):
        tree = tree_of(("g", 0, 0), ("g", 0, 1), ("g", 2, ("f", 2)))
        self.assertEqual(answers(tree, ("g", A, A)), [[0, 1], [], [0, 1], []])
        self.assertEqual(answers(tree, ("g", A, B)), [[1], [], [1], []])
        self.assertEqual(answers(tree, ("g", 4, 4)), [[0, 1], [0], [0, 1], [0]])
        self.assertEqual(answers(tree, ("g", 4, 5)), [[1], [0, 1, 2], [0, 1, 2], [1]])
        self.assertEqual(answers(tree, ("g", A, ("f", B))), [[1], [], [1], []])
        self.assertEqual(answers(tree, ("g", 7, ("f", 7))), [[1, 2], [2], [1, 2], [2]])

    def test_the_same_integer_in_both(self):
        tree = tree_of(("g", 0, A), ("g", 1, 0), ("f", 0))
        self.assertEqual(answers(tree, ("g", A, 0)), [[1], [], [0, 1], []])
        self.assertEqual(answers(tree, ("g", 0, 1)), [[1], [0, 1], [0, 1], [1]])
        self.assertEqual(answers(tree, ("g", ("f", 0), 1)), [[1], [], [0, 1], []])
        self.assertEqual(answers(tree, ("f", ("f", 0))), [[2], [], [2], []])
        self.assertEqual(answers(tree, 0), [[], [0, 1, 2], [0, 1, 2], []])

    def test_the_occurs_check(self):
        tree = tree_of(("g", 0, ("f", 0)), ("g", ("f", 1), 1))
        self.assertEqual(tree.unifiable(("g", 3, 3)), [])
        self.assertEqual(tree.unifiable(("g", 3, ("f", 3))), [0])
        self.assertEqual(tree.unifiable(("g", ("f", 3), 3)), [1])
        self.assertEqual(tree.unifiable(("g", 3, 4)), [0, 1])

    def test_entries_that_are_variables_alone(self):
        tree = tree_of(3, 0, A)
        self.assertEqual(answers(tree, ("f", A)), [[0, 1], [], [0, 1], []])
        self.assertEqual(answers(tree, 8), [[0, 1], [0, 1, 2], [0, 1, 2], [0, 1]])
        self.assertEqual(answers(tree, A), [[0, 1, 2], [2], [0, 1, 2], [2]])
        self.assertEqual(tree.node_count, 3)

    def test_one_symbol_with_two_numbers_of_arguments(self):
        tree = tree_of(("f", 0), ("f", 0, 1), ("f",), ("f", ("f",)))
        self.assertEqual(answers(tree, ("f", A)), [[0], [], [0], []])
        self.assertEqual(answers(tree, ("f", 5, 5)), [[1], [], [1], []])
        self.assertEqual(answers(tree, ("f", ("f",))), [[0, 3], [3], [0, 3], [3]])
        self.assertEqual(answers(tree, ("f",)), [[2], [2], [2], [2]])
        self.assertEqual(tree.node_count, 1 + 2 + 3 + 1 + 1)

    def test_a_unifier_that_would_be_too_large(self):
        def wide(argument):
            return ("w", *[argument] * 700)
        first = ("g", 0, ("f", wide(0)))
        second = ("g", ("f", wide(C)), 1)
        with self.assertRaises(TooLarge):
            unify(shift(first, 2), second)
        tree = tree_of(first, ("g", A, 0), ("g", ("f", 0), ("f", wide(B))), ("g", 0, ("g", 0, 1)))
        self.assertEqual(tree.unifiable(second), [0, 2, 3])
        self.assertEqual(tree_of(second).unifiable(first), [0])
        # Here there is no unifier, although the terms grow as much.
        self.assertEqual(tree.unifiable(("g", ("f", wide(C)), ("f", wide(A)))), [])

    def test_great_terms(self):
        deep = 0
        for _ in range(99):
            deep = ("f", deep)
        wide = ("w", *range(999))
        tree = tree_of(deep, wide)
        self.assertEqual(answers(tree, deep), [[0]] * 4)
        self.assertEqual(answers(tree, wide), [[1]] * 4)
        self.assertEqual(tree.node_count, 1 + 100 + 1000)
        tree.discard(deep, 0)
        tree.discard(wide, 1)
        self.assertEqual(tree.node_count, 1)

    def test_random_terms_by_looking_at_each_entry(self):
        source = random.Random(62)
        sizes = [0, 0, 0, 0]
        for _ in range(40):
            tree = TermTree()
            entries = []
            for _ in range(60):
                if entries and source.random() < 0.3:
                    term, value = source.choice(entries)
                    tree.discard(term, value)
                    entries.remove((term, value))
                else:
                    entry = (random_term(source, 2), source.randrange(4))
                    tree.add(*entry)
                    entries.append(entry)
                self.assertEqual(tree.entries(), entries)
                self.assertEqual(tree.node_count, nodes_by_hand([term for term, _ in entries]))
                term = random_term(source, 2)
                found = answers(tree, term)
                self.assertEqual(found, answers_by_hand(entries, term), term)
                sizes = [size + len(values) for size, values in zip(sizes, found)]
        self.assertGreater(min(sizes), 200)

    def test_lists_are_new(self):
        tree = tree_of(("f", 0), A)
        for call in [tree.entries] + [lambda name=name: getattr(tree, name)(0) for name in RELATIONS]:
            expected = list(call())
            call().append(9)
            call().reverse()
            self.assertEqual(call(), expected)

    def test_two_trees_do_not_touch_each_other(self):
        first, second = TermTree(), TermTree()
        first.add(A, 1)
        self.assertEqual((second.entries(), second.node_count), ([], 1))


class Nodes(unittest.TestCase):
    """Point 63."""

    def test_paths_that_begin_alike(self):
        tree = TermTree()
        counts = []
        for term in [("g", A, B), ("g", A, 0), ("g", A, 7), ("g", 0, B), A, ("g", ("f", A), B), 4]:
            tree.add(term, 0)
            counts.append(tree.node_count)
        self.assertEqual(counts, [4, 5, 5, 7, 8, 11, 12])

    def test_removals_down_to_the_root(self):
        terms = [("g", A, B), ("g", A, 0), ("g", A, 7), ("g", 0, B), A, ("g", ("f", A), B), 4]
        tree = tree_of(*terms)
        counts = []
        for value, term in enumerate(terms):
            tree.discard(term, value)
            counts.append(tree.node_count)
        self.assertEqual(counts, [11, 11, 9, 7, 6, 2, 1])
        self.assertEqual(tree.entries(), [])
        tree.add(("f", A), 5)
        self.assertEqual(tree.node_count, 3)

    def test_a_path_that_is_the_beginning_of_none_stays_for_equal_entries(self):
        tree = tree_of(("f", 0), ("f", 1), ("f", 0))
        tree.discard(("f", 0), 0)
        self.assertEqual(tree.node_count, 3)
        tree.discard(("f", 1), 1)
        tree.discard(("f", 0), 2)
        self.assertEqual(tree.node_count, 1)


class Discarding(unittest.TestCase):
    """Points 4 and 61."""

    def assert_unknown(self, tree, term, value):
        before = (tree.entries(), tree.node_count, answers(tree, 0))
        with self.assertRaises(UnknownEntry) as caught:
            tree.discard(term, value)
        self.assertEqual(caught.exception.number, value)
        self.assertEqual((tree.entries(), tree.node_count, answers(tree, 0)), before)

    def test_unknown_entries(self):
        tree = tree_of(("f", 0), A, ("g", 0, 1))
        self.assert_unknown(tree, ("f", 0), 1)
        self.assert_unknown(tree, ("f", 0), 7)
        self.assert_unknown(tree, ("f", 1), 0)
        self.assert_unknown(tree, ("f", A), 0)
        self.assert_unknown(tree, ("f",), 0)
        self.assert_unknown(tree, ("f", 0, 0), 0)
        self.assert_unknown(tree, ("g", 0, 0), 2)
        self.assert_unknown(tree, B, 1)
        self.assert_unknown(tree, 0, 0)
        self.assert_unknown(TermTree(), A, 0)

    def test_an_entry_that_was_removed(self):
        tree = tree_of(A, ("f", A))
        tree.discard(A, 0)
        self.assert_unknown(tree, A, 0)
        self.assertEqual(tree.entries(), [(("f", A), 1)])

    def test_the_first_of_several_is_removed(self):
        tree = TermTree()
        for term, value in [(("f", 1), 4), (("f", 0), 4), (A, 4), (("f", 0), 4), (("f", 0), 2)]:
            tree.add(term, value)
        tree.discard(("f", 0), 4)
        self.assertEqual(tree.entries(), [(("f", 1), 4), (A, 4), (("f", 0), 4), (("f", 0), 2)])
        tree.discard(("f", 0), 2)
        self.assertEqual(tree.entries(), [(("f", 1), 4), (A, 4), (("f", 0), 4)])


if __name__ == "__main__":
    unittest.main()
