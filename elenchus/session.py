"""Sessions: statements on levels, and answers to questions about them."""

from elenchus.clausify import clausify
from elenchus.derivation import used_inputs
from elenchus.errors import DuplicateName, NoLevel, SecondGoal
from elenchus.expansion import expand
from elenchus.finder import find_least
from elenchus.formulas import formula_signature
from elenchus.loop import Prover
from elenchus.reader import read_statements
from elenchus.weights import Ordering


class Session:
    """Statements, each on the level that was the last one when it was added."""

    def __init__(self, *, weights=None, precedence=(), selection=1, by_weight=4, by_age=1):
        self._ordering = Ordering({} if weights is None else weights, precedence)
        self._selection = selection
        self._by_weight = by_weight
        self._by_age = by_age
        self._new_prover()
        self._statements = []
        # For each level behind the first one, how many statements the levels before it have.
        self._marks = []

    @property
    def level(self):
        """The number of levels that are open behind the first one."""
        return len(self._marks)

    def add(self, text):
        """Add the statements of the text to the last level."""
        added = read_statements(text)
        names = {name: True for _, name, _ in self._statements}
        has_goal = "goal" in [role for role, _, _ in self._statements]
        for role, name, _ in added:
            if name in names:
                raise DuplicateName(name)
            if role == "goal" and has_goal:
                raise SecondGoal(name)
        formula_signature([formula for _, _, formula in self._statements + added])
        self._statements.extend(added)

    def push(self):
        """Open a level."""
        self._marks.append(len(self._statements))

    def pop(self):
        """Close the last level."""
        if not self._marks:
            raise NoLevel()
        kept = self._marks.pop()
        del self._statements[kept:]

    def statements(self):
        """Return the list of the statements (role, name, formula)."""
        return list(self._statements)

    def clauses(self):
        """Return the list of the pairs (name, clause)."""
        named = [(name, formula) for role, name, formula in self._statements if role == "axiom"]
        named += [(name, ("not", formula)) for role, name, formula in self._statements if role == "goal"]
        return list(clausify(named))

    def attempt(self, *, steps=100):
        """Run a new prover on the clauses, and return the answer."""
        inputs = self._inputs()
        prover = self._new_prover()
        for clause in inputs:
            prover.add(clause)
        kind, found = prover.run(steps)
        if kind == "refuted":
            return ("refuted", inputs, expand(inputs, prover.history, found))
        if kind == "saturated":
            return ("saturated", [prover.record(number)[3] for number in found])
        return ("limit", "steps" if kind == "spent" else "size")

    def support(self, answer):
        """Return the names of the statements whose clauses a refutation uses, in the order of the statements."""
        named = self.clauses()
        used = {named[number][0]: True for number in used_inputs(answer[2])}
        return [name for _, name, _ in self._statements if name in used]

    def structure(self, *, greatest=3, limit=1000):
        """Return the answer of the search for a structure in which the clauses hold."""
        return find_least(self._inputs(), greatest, limit=limit)

    def _inputs(self):
        """Return the clauses without their names."""
        return [clause for _, clause in self.clauses()]

    def _new_prover(self):
        return Prover(self._ordering, selection=self._selection, by_weight=self._by_weight, by_age=self._by_age)
