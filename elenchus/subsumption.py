"""Subsumption, variants and sets of clauses that do not subsume each other."""

from elenchus.choices import agreeing_bindings
from elenchus.clauses import is_tautology, matchings, normal
from elenchus.errors import UnknownClause
from elenchus.terms import is_variable


def subsuming_substitution(clause, other):
    """Return a substitution by which the clause subsumes the other one, or None."""
    if len(clause) > len(other):
        return None
    rows = []
    for literal in clause:
        row = literal_ways(literal, other)
        if not row:
            return None
        rows.append(row)
    return agreeing_bindings(rows, False)


def literal_ways(literal, clause):
    """Return the pairs of an index and a substitution that makes the literal alike to the one at the index."""
    return [(index, bound) for index, other in enumerate(clause) if literal[0] == other[0]
            for bound in matchings(literal, other)]


def subsumes(clause, other):
    """Return True if the clause subsumes the other one."""
    return subsuming_substitution(clause, other) is not None


def are_variants(clause, other):
    """Return True if the clauses are variants."""
    if len(clause) != len(other):
        return False
    rows = []
    for literal in clause:
        row = [(index, bound) for index, bound in literal_ways(literal, other) if is_renaming(bound)]
        if not row:
            return False
        rows.append(row)
    return agreeing_bindings(rows, True) is not None


def is_renaming(substitution):
    """Return True if the substitution gives different variables different variables."""
    names = list(substitution.values())
    return all([is_variable(name) for name in names]) and len(set(names)) == len(names)


class ClauseSet:
    """Clauses in normal form, none of which subsumes another one, with numbers that are never used again."""

    def __init__(self):
        self._clauses = {}
        self._next = 0

    def insert(self, clause):
        """Return the number under which the clause is kept, or None, and the numbers of the removed clauses."""
        kept = normal(clause)
        if is_tautology(kept) or self.subsumer(kept) is not None:
            return None, []
        removed = [number for number in self._clauses if subsumes(kept, self._clauses[number])]
        for number in removed:
            del self._clauses[number]
        number = self._next
        self._clauses[number] = kept
        self._next += 1
        return number, removed

    def clause(self, number):
        """Return the clause that is kept under the number."""
        if number not in self._clauses:
            raise UnknownClause(number)
        return self._clauses[number]

    def numbers(self):
        """Return the numbers of the kept clauses in ascending order."""
        return list(self._clauses)

    def subsumer(self, clause):
        """Return the least number of a kept clause that subsumes the clause, or None."""
        for number in self._clauses:
            if subsumes(self._clauses[number], clause):
                return number
        return None

    def has_variant(self, clause):
        """Return True if a kept clause is a variant of the normal form of the clause."""
        form = normal(clause)
        for number in self._clauses:
            if are_variants(form, self._clauses[number]):
                return True
        return False

    def __len__(self):
        return len(self._clauses)

    def __iter__(self):
        return iter(self._clauses.values())
