"""Point 4: the classes of errors and their attributes."""

import unittest

from elenchus import errors
from elenchus.errors import (ArityError, ElenchusError, InvalidPosition, InvalidSelection, MissingVariable, TextError,
                             TooLarge, UnknownClause, UnknownEntry, UnknownRecord, UnknownSymbol)
from elenchus.expansion import expand, supporting
from elenchus.formulas import Signature
from elenchus.ground import Grounding
from elenchus.loop import Prover
from elenchus.passive import Passive
from elenchus.selection import selected
from elenchus.structures import Structure, clause_holds
from elenchus.subsumption import ClauseSet
from elenchus.terms import replace_at, subterm_at
from elenchus.tree import TermTree
from elenchus.unify import apply, compose, unify_all
from elenchus.weights import Ordering

ATTRIBUTES = {
    "TextError": ("line", "column", "reason"),
    "UnknownSymbol": ("symbol",),
    "KindError": ("symbol",),
    "ArityError": ("symbol", "expected", "found"),
    "TooLarge": ("limit",),
    "InvalidStep": ("place", "reason"),
    "InvalidPosition": ("position",),
    "MissingVariable": ("variable",),
    "InvalidStructure": ("reason",),
    "UnknownClause": ("number",),
    "UnknownRecord": ("number",),
    "UnknownEntry": ("number",),
    "DuplicateNumber": ("number",),
    "DuplicateName": ("name",),
    "SecondGoal": ("name",),
    "InvalidOrdering": ("reason",),
    "InvalidRatio": ("reason",),
    "InvalidSelection": ("selection",),
    "EmptyQueue": (),
    "NoLevel": (),
}


class ErrorClasses(unittest.TestCase):
    def test_the_base_class_is_a_value_error(self):
        self.assertEqual(ElenchusError.__bases__, (ValueError,))

    def test_each_class_lies_directly_below_the_base_class(self):
        for name in ATTRIBUTES:
            with self.subTest(name=name):
                self.assertEqual(getattr(errors, name).__bases__, (ElenchusError,))

    def test_there_are_no_other_classes(self):
        found = [name for name, thing in vars(errors).items() if isinstance(thing, type)]
        self.assertEqual(sorted(found), sorted(["ElenchusError", *ATTRIBUTES]))

    def test_each_attribute_is_set_when_the_error_is_created(self):
        for name, attributes in ATTRIBUTES.items():
            with self.subTest(name=name):
                values = [object() for _ in attributes]
                error = getattr(errors, name)(*values)
                for attribute, value in zip(attributes, values):
                    self.assertIs(getattr(error, attribute), value)

    def test_arguments_have_the_names_of_the_attributes(self):
        for name, attributes in ATTRIBUTES.items():
            with self.subTest(name=name):
                values = {attribute: object() for attribute in attributes}
                error = getattr(errors, name)(**values)
                for attribute in attributes:
                    self.assertIs(getattr(error, attribute), values[attribute])

    def test_each_error_can_be_raised_and_its_message_has_the_values(self):
        for name, attributes in ATTRIBUTES.items():
            with self.subTest(name=name):
                with self.assertRaises(ElenchusError) as caught:
                    raise getattr(errors, name)(*[f"the {attribute}" for attribute in attributes])
                for attribute in attributes:
                    self.assertIn(f"the {attribute}", str(caught.exception))

    def test_the_message_of_a_text_error_tells_the_place(self):
        self.assertEqual(str(TextError(3, 7, "unexpected token")), "line 3, column 7: unexpected token")

    def test_wrong_numbers_of_arguments_are_refused(self):
        for name, attributes in ATTRIBUTES.items():
            if attributes:
                with self.subTest(name=name), self.assertRaises(TypeError):
                    getattr(errors, name)()


class LongNumbers(unittest.TestCase):
    """Point 4: an error is raised as itself, however many digits its number has."""

    number = 12 * 10 ** 4300
    digits = "12" + "0" * 4300

    def check(self, expected, call, *arguments):
        """Make sure that the call raises this error, with the digits in its message."""
        with self.assertRaises(expected) as caught:
            call(*arguments)
        self.assertTrue(self.digits in str(caught.exception))
        return caught.exception

    def test_classes_whose_attribute_is_a_number(self):
        for name in ("UnknownSymbol", "MissingVariable", "UnknownClause", "UnknownRecord", "UnknownEntry",
                     "DuplicateNumber", "InvalidSelection", "InvalidPosition"):
            with self.subTest(name=name):
                error = getattr(errors, name)(self.number)
                self.assertTrue(self.digits in str(error))
                self.assertTrue(getattr(error, ATTRIBUTES[name][0]) == self.number)
                self.assertTrue("-" + self.digits in str(getattr(errors, name)(-self.number)))
        self.assertTrue(self.digits in str(errors.InvalidStep(self.number, "wrong rule")))
        for error in (TextError(self.number, self.number, "invalid step"), ArityError("f", self.number, self.number)):
            self.assertEqual(str(error).count(self.digits), 2)

    def test_short_numbers_look_as_ever(self):
        self.assertEqual(str(UnknownClause(12)), "no clause 12")
        self.assertEqual(str(UnknownRecord(-1)), "no record -1")
        self.assertEqual(str(MissingVariable("X")), "no element for variable X")
        self.assertEqual(str(ArityError("f", 1, 2)), "f has 1 arguments, not 2")
        self.assertEqual(str(InvalidPosition((2, 1))), "no position (2, 1)")

    def test_positions(self):
        error = self.check(InvalidPosition, subterm_at, ("f", 0), (1, self.number))
        self.assertTrue(error.position == (1, self.number))
        self.check(InvalidPosition, replace_at, ("f", 0), (self.number,), ("a",))

    def test_variables(self):
        structure = Structure(2, {}, {})
        error = self.check(MissingVariable, structure.value, self.number, {})
        self.assertTrue(error.variable == self.number)
        self.check(MissingVariable, structure.literal_holds, (True, self.number, 0), {0: 1})
        self.assertTrue(clause_holds(structure, ((True, self.number, self.number),)))

    def test_numbers_of_clauses_records_and_entries(self):
        prover = Prover(Ordering({}, []))
        self.check(UnknownRecord, expand, [], [], self.number)
        self.check(UnknownRecord, supporting, [], -self.number)
        self.check(UnknownClause, prover.record, self.number)
        self.check(UnknownClause, ClauseSet().clause, self.number)
        self.check(UnknownEntry, TermTree().discard, 0, self.number)

    def test_other_numbers(self):
        queue = Passive()
        queue.add(self.number, 1)
        error = self.check(errors.DuplicateNumber, queue.add, self.number, 2)
        self.assertTrue(error.number == self.number)
        self.assertEqual(len(queue), 1)
        self.check(InvalidSelection, selected, Ordering({}, []), (), self.number)
        self.check(UnknownSymbol, Grounding([], 2).meaning, self.number)


class NothingChanges(unittest.TestCase):
    """A call that raises has changed no argument."""

    def test_apply(self):
        big = ("f", *[0] * 900)
        substitution = {0: big, 1: ("a",)}
        with self.assertRaises(TooLarge):
            apply(substitution, ("g", 0, 1, 0))
        self.assertEqual(substitution, {0: big, 1: ("a",)})

    def test_compose(self):
        first = {0: ("f", 1, 1)}
        second = {1: ("f", *[2] * 900)}
        with self.assertRaises(TooLarge):
            compose(first, second)
        self.assertEqual(first, {0: ("f", 1, 1)})
        self.assertEqual(second, {1: ("f", *[2] * 900)})

    def test_unify_all(self):
        pairs = [(0, ("f", 1, 1)), (1, ("f", *[2] * 900))]
        with self.assertRaises(TooLarge):
            unify_all(pairs)
        self.assertEqual(pairs, [(0, ("f", 1, 1)), (1, ("f", *[2] * 900))])

    def test_replace_at(self):
        position = (2, 1)
        with self.assertRaises(InvalidPosition):
            replace_at(("f", 0), position, ("a",))
        self.assertEqual(position, (2, 1))

    def test_signature(self):
        signature = Signature()
        signature.add_function("f", 1)
        for add, symbol, arity in [(signature.add_function, "f", 2), (signature.add_predicate, "f", 1),
                                   (signature.add_function, "g", 9)]:
            with self.assertRaises(ElenchusError):
                add(symbol, arity)
        self.assertEqual(signature.functions(), [("f", 1)])
        self.assertEqual(signature.predicates(), [])
        self.assertEqual(len(signature), 1)


if __name__ == "__main__":
    unittest.main()
