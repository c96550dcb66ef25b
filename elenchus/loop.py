"""The prover: clauses wait, become active one by one, and are joined with the active ones."""

from elenchus.clauses import clause_weight, is_tautology, normal
from elenchus.equality import each_factoring, each_resolution
from elenchus.errors import TooLarge, UnknownClause
from elenchus.passive import Passive
from elenchus.saturation import open_inference
from elenchus.selection import check_selection
from elenchus.simplify import Reducer, simplify
from elenchus.subsumption import subsumes
from elenchus.superposition import each_superposition
from elenchus.terms import nesting, size

MOST_LITERALS = 12
DEEPEST_SIDE = 12
MOST_SYMBOLS = 120

LIMIT_ANSWER = ("limit", None)


class Prover:
    """Records of clauses; some of the clauses are active, and some wait."""

    def __init__(self, ordering, *, selection=0, by_weight=4, by_age=1):
        check_selection(selection)
        self._ordering = ordering
        self._selection = selection
        self._passive = Passive(by_weight=by_weight, by_age=by_age)
        self._history = []
        self._input_numbers = []
        self._active_numbers = []
        self._answer = None

    @property
    def history(self):
        """The list of all records."""
        return [copied_record(row) for row in self._history]

    @property
    def active(self):
        """The list of the numbers of the active clauses."""
        return list(self._active_numbers)

    @property
    def waiting(self):
        """The list of the numbers in the passive queue."""
        return list(self._passive)

    def record(self, number):
        """Return the record with the number."""
        if not 0 <= number < len(self._history):
            raise UnknownClause(number)
        return copied_record(self._history[number])

    def add(self, clause):
        """Add a clause as an input, and return the number of its record."""
        given = normal(clause)
        if is_too_large(given):
            raise TooLarge("clause")
        number = self._keep("input", (), None, given)
        self._input_numbers.append(number)
        self._wait(number)
        if not given:
            self._refute(number)
        return number

    def run(self, steps):
        """Perform at most this many steps, and return the answer."""
        left = steps
        while self._answer is None:
            if len(self._passive) == 0:
                if self._is_saturated():
                    return ("saturated", list(self._active_numbers))
            elif left == 0:
                return ("spent", None)
            else:
                left -= 1
                self._make_step()
        return self._answer

    def _clause(self, number):
        return self._history[number][3]

    def _keep(self, rule, premises, details, clause):
        """Add a record, and return its number."""
        self._history.append((rule, premises, details, clause))
        return len(self._history) - 1

    def _wait(self, number):
        self._passive.add(number, clause_weight(self._clause(number)))

    def _refute(self, number):
        # The first answer stays.
        if self._answer is None:
            self._answer = ("refuted", number)

    def _wait_or_refute(self, number):
        if self._clause(number):
            self._wait(number)
        else:
            self._refute(number)

    def _make_step(self):
        """Take a number from the queue, and make its clause active unless that is of no use."""
        number = self._simplified(self._passive.take())
        clause = self._clause(number)
        if not clause:
            self._refute(number)
        elif not is_tautology(clause) and not self._is_subsumed(clause):
            self._reduce_active(number)
            if self._answer is None:
                self._active_numbers = sorted(self._active_numbers + [number])
                self._draw_inferences(number)

    def _simplified(self, number):
        """Return the number of the clause as simplified by the active clauses."""
        active = [(other, self._clause(other)) for other in self._active_numbers]
        units = [(other, clause) for other, clause in active if len(clause) == 1]
        result, steps = simplify(self._ordering, self._clause(number), units)
        return self._keep_simplified(number, result, steps) if steps else number

    def _keep_simplified(self, number, result, steps):
        """Add the record of a simplification, and return its number."""
        used = sorted({step[2] for step in steps if step[0] != "clean"})
        return self._keep("simplify", (number,) + tuple(used), steps, normal(result))

    def _is_subsumed(self, clause):
        for other in self._active_numbers:
            if subsumes(self._clause(other), clause):
                return True
        return False

    def _reduce_active(self, number):
        """Remove the active clauses that the clause subsumes or simplifies, until the prover has an answer."""
        clause = self._clause(number)
        for other in list(self._active_numbers):
            if subsumes(clause, self._clause(other)):
                self._active_numbers.remove(other)
            elif len(clause) == 1:
                result, steps = simplify(self._ordering, self._clause(other), [(number, clause)])
                if steps:
                    self._active_numbers.remove(other)
                    self._wait_or_refute(self._keep_simplified(other, result, steps))
            if self._answer is not None:
                return

    def _draw_inferences(self, number):
        """Draw all inferences with an active clause, until the prover has an answer."""
        others = [other for other in self._active_numbers if other != number]
        pairs = [(other, self._clause(other)) for other in others]
        clause = self._clause(number)
        try:
            for rule, premises, details, conclusion in inferences_with(
                    self._ordering, self._selection, pairs, number, clause):
                self._conclude(rule, premises, details, conclusion)
                if self._answer is not None:
                    return
        except TooLarge:
            self._answer = LIMIT_ANSWER

    def _conclude(self, rule, premises, details, conclusion):
        """Take in the conclusion of an inference."""
        if is_too_large(conclusion):
            self._answer = LIMIT_ANSWER
        elif not is_tautology(conclusion):
            self._wait_or_refute(self._keep(rule, premises, details, conclusion))

    def _is_saturated(self):
        """Return True if nothing is open; otherwise let a clause wait, or stop with an answer."""
        clauses = [self._clause(number) for number in self._active_numbers]
        reducer = Reducer(self._ordering, clauses)
        for number in self._input_numbers:
            if not reducer.accepts(self._clause(number)):
                self._wait(number)
                return False
        try:
            found = open_inference(self._ordering, self._selection, clauses)
        except TooLarge:
            self._answer = LIMIT_ANSWER
            return False
        if found is None:
            return True
        rule, premises, details, conclusion = recorded(found, self._active_numbers)
        self._conclude(rule, premises, details, conclusion)
        return False


def copied_record(row):
    """Return the record with a list and dicts of its own."""
    rule, premises, details, clause = row
    if rule != "simplify":
        return row
    steps = [step if step[0] == "clean" else step[:-1] + (dict(step[-1]),) for step in details]
    return (rule, premises, steps, clause)


def is_too_large(clause):
    """Return True if the clause is larger than those of a prover may be."""
    ends = [side for literal in clause for side in literal[1:]]
    return (len(clause) > MOST_LITERALS or sum([size(side) for side in ends]) > MOST_SYMBOLS
            or max([nesting(side) for side in ends], default=0) > DEEPEST_SIDE)


def inferences_with(ordering, selection, pairs, number, clause):
    """Yield (rule, premises, details, conclusion) of every inference with the numbered clause.

    The pairs are the numbers and the clauses with which it is joined, beside itself.
    """
    for other, partner in pairs + [(number, clause)]:
        for row in each_superposition(ordering, selection, clause, partner):
            yield ("superposition", (number, other), row[:2], row[2])
        if other != number:
            for row in each_superposition(ordering, selection, partner, clause):
                yield ("superposition", (other, number), row[:2], row[2])
    for row in each_resolution(ordering, selection, clause):
        yield ("resolution", (number,), row[0], row[1])
    for row in each_factoring(ordering, selection, clause):
        yield ("factoring", (number,), row[:2], row[2])


def recorded(found, numbers):
    """Return what `inferences_with` yields for an open inference of the numbered clauses."""
    if found[0] == "superposition":
        rule, first, second, source, target, conclusion = found
        return rule, (numbers[first], numbers[second]), (source, target), conclusion
    if found[0] == "resolution":
        rule, number, index, conclusion = found
        return rule, (numbers[number],), index, conclusion
    rule, number, first, second, conclusion = found
    return rule, (numbers[number],), (first, second), conclusion
