"""Expanding the records of a prover into derivations of small steps."""

from elenchus.clauses import alike, clause_variables, is_equation, rename_apart
from elenchus.errors import UnknownRecord
from elenchus.places import sides
from elenchus.steps import conclusion_of
from elenchus.terms import subterm_at
from elenchus.unify import unify


def expand(inputs, records, number):
    """Return the list of the steps that show the clause of a record."""
    check_record(records, number)
    added = [other for other, record in enumerate(records) if record[0] == "input"]
    expansion = Expansion(inputs, records)
    for other in supporting(records, number):
        if records[other][0] == "input":
            expansion.expand_input(other, added.index(other))
        else:
            expansion.expand_record(other)
    return expansion.steps


def supporting(records, number):
    """Return the numbers of the records that this record rests on, itself included, in ascending order."""
    check_record(records, number)
    marked = {number: True}
    for other in range(number, -1, -1):
        if other in marked:
            for premise in records[other][1]:
                marked[premise] = True
    return sorted(marked)


def check_record(records, number):
    """Make sure that there is a record with the number."""
    if not 0 <= number < len(records):
        raise UnknownRecord(number)


class Expansion:
    """A derivation that grows; steps are named by their numbers."""

    def __init__(self, inputs, records):
        self._inputs = inputs
        self._records = records
        # The step that has the clause of a record as its conclusion.
        self._ends = {}
        self.steps = []

    def expand_input(self, number, index):
        """Add the steps for the record of an input clause."""
        self._finish(number, self._add("input", (), (index,)))

    def expand_record(self, number):
        """Add the steps for another record; those for its premises are there."""
        rule, premises, details, _ = self._records[number]
        if rule == "superposition":
            step = self._superposition(premises, details)
        elif rule == "resolution":
            step = self._resolution(premises[0], details)
        elif rule == "factoring":
            step = self._factoring(premises[0], details)
        else:
            step = self._ends[premises[0]]
            for part in details:
                step = self._simplification(step, part)
        self._finish(number, step)

    def _finish(self, number, step):
        """Bring the conclusion of the step into the normal form, which is the clause of the record."""
        step = self._merged(self._cleaned(step) if self._records[number][0] != "input" else step)
        order = clause_variables(self._clause(step))
        self._ends[number] = self._instance(step, {variable: place for place, variable in enumerate(order)})

    def _clause(self, step):
        return self.steps[step][3]

    def _add(self, rule, premises, data):
        """Add a step, and return its number."""
        clauses = [self._clause(premise) for premise in premises]
        self.steps.append((rule, premises, data, conclusion_of(self._inputs, rule, clauses, data)))
        return len(self.steps) - 1

    def _instance(self, step, new):
        """Replace variables in the conclusion of the step, if that changes it."""
        names = clause_variables(self._clause(step))
        pairs = [(name, new[name]) for name in names if new.get(name, name) != name]
        return self._add("instance", (step,), tuple(pairs)) if pairs else step

    def _swapped(self, step, index, side):
        """Exchange the sides of a literal if the stated side is the right one."""
        return self._add("swap", (step,), (index,)) if side == 1 else step

    def _cleaned(self, step):
        """Drop the trivial literals."""
        index = 0
        while index < len(self._clause(step)):
            positive, left, right = self._clause(step)[index]
            if not positive and left == right:
                step = self._add("drop", (step,), (index,))
            else:
                index += 1
        return step

    def _merged(self, step):
        """Keep only the first of several literals that are alike."""
        index = 0
        while index < len(self._clause(step)):
            clause = self._clause(step)
            before = [place for place in range(index) if alike(clause[place], clause[index])]
            if before:
                step = self._swapped(step, index, 1 if clause[before[0]] != clause[index] else 0)
                step = self._add("merge", (step,), (before[0], index))
            else:
                index += 1
        return step

    def _superposition(self, premises, details):
        """Add the steps of a superposition."""
        first, second = [self._ends[premise] for premise in premises]
        (index, side), (place, target_side, position) = details
        clause = self._clause(first)
        renamed = rename_apart(clause, self._clause(second))
        unifier = unify(clause[index][1 + side], subterm_at(renamed[place][1 + target_side], position))
        names = clause_variables(self._clause(second))
        new = {name: unifier.get(other, other) for name, other in zip(names, clause_variables(renamed))}
        left = self._swapped(self._instance(first, unifier), index, side)
        right = self._instance(second, new)
        if is_equation(clause[index]):
            return self._add("replace", (left, right), (index, place, target_side, position))
        return self._add("resolve", (left, right), (index, place))

    def _resolution(self, premise, index):
        """Add the steps of an equality resolution."""
        step = self._ends[premise]
        _, left, right = self._clause(step)[index]
        return self._add("drop", (self._instance(step, unify(left, right)),), (index,))

    def _factoring(self, premise, details):
        """Add the steps of an equality factoring; for atoms they leave a trivial literal."""
        (first, first_side), (second, second_side) = details
        step = self._ends[premise]
        clause = self._clause(step)
        unifier = unify(sides(clause[first], first_side)[0], sides(clause[second], second_side)[0])
        step = self._swapped(self._instance(step, unifier), first, first_side)
        step = self._add("factor", (self._swapped(step, second, second_side),), (first, second))
        return self._swapped(step, second - 1 if second > first else second, second_side)

    def _simplification(self, step, part):
        """Add the steps for one step of a simplification."""
        if part[0] == "clean":
            return self._cleaned(step)
        if part[0] == "rewrite":
            number, rule_side, index, side, position, bound = part[2:]
            rule = self._swapped(self._instance(self._ends[number], bound), 0, rule_side)
            return self._add("replace", (rule, step), (0, index, side, position))
        number, index, bound = part[2:]
        cutter = self._instance(self._ends[number], bound)
        exchanged = self._clause(cutter)[0][1:] != self._clause(step)[index][1:]
        cutter = self._swapped(cutter, 0, 1 if exchanged else 0)
        return self._add("resolve", (step, cutter), (index, 0))
