"""The search for sets of variables that satisfy propositional clauses, and for finite structures."""

from elenchus.errors import InvalidStructure
from elenchus.ground import Grounding
from elenchus.propagation import Propagation, is_opposed


def follows(clauses, clause):
    """Return True if the propositional clause follows by propagation from the list."""
    return propagation_of(clauses).refutes(negations(clause))


def accepted(clauses, refutation):
    """Return True if the refutation list is accepted for the list."""
    if not refutation or refutation[-1]:
        return False
    propagation = propagation_of(clauses)
    for clause in refutation:
        if not propagation.refutes(negations(clause)):
            return False
        propagation.add_clause(clause)
    return True


def search(clauses, count, *, limit=1000):
    """Return ("true", numbers), ("none", refutation), or ("limit", steps)."""
    return Search(clauses).run(limit)


def find_structure(clauses, size, *, limit=1000):
    """Return ("structure", structure), ("none", refutation), or ("limit", steps)."""
    grounding = Grounding(clauses, size)
    kind, found = search(grounding.clauses(), grounding.variable_count, limit=limit)
    return ("structure", grounding.structure(found)) if kind == "true" else (kind, found)


def find_least(clauses, greatest, *, limit=1000):
    """Return the first answer for a size from 1 to the greatest one that is not "none"."""
    if greatest < 1:
        raise InvalidStructure("the greatest size is less than 1")
    refutations = []
    for size in range(1, greatest + 1):
        kind, found = find_structure(clauses, size, limit=limit)
        if kind != "none":
            return (kind, found)
        refutations.append(found)
    return ("none", refutations)


def propagation_of(clauses):
    """Return a new Propagation with the clauses."""
    propagation = Propagation()
    for clause in clauses:
        propagation.add_clause(clause)
    return propagation


def negations(clause):
    """Return the list of the negations of the integers."""
    return [-integer for integer in clause]


class Search:
    """A search by decisions; from each conflict a clause is learned."""

    def __init__(self, clauses):
        self._clauses = [clause for clause in clauses if not is_opposed(clause)]
        self._propagation = propagation_of(clauses)
        self._learned = []
        # For each level an index: the clauses before it are true.
        self._starts = [0]

    def run(self, limit):
        """Return the answer with at most this many decisions."""
        decisions = 0
        while True:
            conflict = None if self._propagation.has_failed() else self._propagation.propagate()
            if self._propagation.has_failed() or (conflict is not None and self._propagation.current_level() == 0):
                return ("none", self._learned + [[]])
            if conflict is not None:
                self._learn(conflict)
                continue
            decision = self._next_decision()
            if decision is None:
                return ("true", sorted([number for number in self._propagation.true_integers() if number > 0]))
            if decisions == limit:
                return ("limit", decisions)
            decisions += 1
            self._starts.append(self._starts[-1])
            self._propagation.decide(decision)

    def _next_decision(self):
        """Return the first integer without a value of the first clause that is not true, or None."""
        start = self._starts[-1]
        while start < len(self._clauses) and self._is_satisfied(self._clauses[start]):
            start += 1
        self._starts[-1] = start
        if start == len(self._clauses):
            return None
        return [integer for integer in self._clauses[start] if not self._propagation.is_true(-integer)][0]

    def _is_satisfied(self, clause):
        for integer in clause:
            if self._propagation.is_true(integer):
                return True
        return False

    def _learn(self, conflict):
        """Learn a clause from a clause that is false, and go back to where something follows from it."""
        first, others = self._analysis(conflict)
        levels = [self._propagation.level_of(integer) for integer in others]
        back = max(levels, default=0)
        if others:
            place = levels.index(back)
            others = [others[place]] + others[:place] + others[place + 1:]
        self._propagation.back_to(back)
        del self._starts[back + 1:]
        self._learned.append([first] + others)
        self._propagation.learn_clause([first] + others)

    def _analysis(self, conflict):
        """Return a clause that is false, as its only integer of the current level and the list of the others.

        The false clause is resolved with the reasons of what made it false,
        the latest first. What is false at level 0 is left out.
        """
        trail = self._propagation.true_integers()
        level = self._propagation.current_level()
        seen = {}
        others = []
        waiting = 0
        reason = conflict
        while True:
            for integer in self._propagation.clause(reason):
                if abs(integer) not in seen and self._propagation.level_of(integer) > 0:
                    seen[abs(integer)] = True
                    if self._propagation.level_of(integer) == level:
                        waiting += 1
                    else:
                        others.append(integer)
            latest = trail.pop()
            while abs(latest) not in seen:
                latest = trail.pop()
            waiting -= 1
            if waiting == 0:
                return -latest, others
            reason = self._propagation.reason(latest)
