"""The rewriting rules that a list of clauses stands for."""

from elenchus.clauses import clause_variables
from elenchus.errors import TooLarge
from elenchus.selection import check_selection, selected
from elenchus.universe import Universe

MOST_INSTANCES = 20000


def ground_terms(ordering, clauses, weight):
    """Return the list of the ground terms and atoms of at most this weight in ascending order."""
    universe = Universe(ordering, clauses, weight)
    return [universe.term(number) for number in range(1, universe.total())]


class RewritingModel:
    """The rules of a list of clauses with an ordering and a selection."""

    def __init__(self, ordering, clauses, *, selection=0):
        check_selection(selection)
        self._ordering = ordering
        self._clauses = list(clauses)
        self._selection = selection
        # What was produced for the greatest weight that was asked for: lighter
        # terms and rules are a part of that.
        self._weight = None
        self._production = None

    def rules(self, weight):
        """Return the list of the rules whose left sides weigh at most this number."""
        return self._produced(weight).rules_up_to(weight)

    def normal_form(self, term):
        """Return the normal form of a ground term or a ground atom."""
        return self._produced(self._ordering.weight(term)).normal_form(term)

    def is_true(self, clause):
        """Return True if the ground clause is true under the rules."""
        weights = [self._ordering.weight(side) for literal in clause for side in literal[1:]]
        production = self._produced(max(weights, default=0))
        for positive, left, right in clause:
            if positive == (production.normal_form(left) == production.normal_form(right)):
                return True
        return False

    def _produced(self, weight):
        """Return what is produced for this weight or a greater one."""
        if self._weight is None or weight > self._weight:
            self._production = Production(self._ordering, self._clauses, self._selection, weight)
            self._weight = weight
        return self._production


class Production:
    """The rules of clauses, and normal forms, for terms up to a weight; terms and atoms are numbers."""

    def __init__(self, ordering, clauses, selection, weight):
        self._universe = Universe(ordering, clauses, weight)
        self._values = self._universe.ground_terms_only()
        check_instance_count(clauses, len(self._values))
        # The normal forms of the least terms, under the rules that are known.
        self._normal = [0]
        self._rules = []
        instances = []
        for index, clause in enumerate(clauses):
            if selected(ordering, clause, selection) is None:
                for literals in self._instances(clause):
                    instances.append((clause_key(literals), index, literals))
        for key, _, literals in sorted(instances):
            if key and may_produce(key):
                self._produce(key[0][0], key[0][1], literals)
        self._normalize_up_to(self._universe.total() - 1)

    def rules_up_to(self, weight):
        """Return the pairs of terms of the rules whose left sides weigh at most this number."""
        return [(self._universe.term(left), self._universe.term(right)) for left, right in self._rules
                if self._universe.weight_of(left) <= weight]

    def normal_form(self, term):
        """Return the normal form of a ground term or atom that is not heavier than the given weight."""
        number = self._universe.number_of(term, {})
        if number is not None:
            return self._universe.term(self._normal[number])
        # It has a symbol that is in no rule.
        return (term[0],) + tuple([self.normal_form(argument) for argument in term[1:]])

    def _instances(self, clause):
        """Return the ground instances of the clause, as lists of literals, that are not too heavy."""
        names = clause_variables(clause)
        found = []
        for row in value_rows(self._values, len(names)):
            literals = self._instance(clause, dict(zip(names, row)))
            if literals is not None:
                found.append(literals)
        return found

    def _instance(self, clause, bound):
        """Return the literals of a ground instance, or None if one of its sides is too heavy."""
        literals = []
        for positive, left, right in clause:
            first = self._universe.number_of(left, bound)
            second = self._universe.number_of(right, bound)
            if first is None or second is None:
                return None
            literals.append((positive, first, second))
        return literals

    def _normalize_up_to(self, number):
        """Find the normal forms of all terms up to this one."""
        for other in range(len(self._normal), number + 1):
            row = self._universe.row(other)
            changed = self._universe.number_of_row(row[:1] + tuple([self._normal[part] for part in row[1:]]))
            self._normal.append(other if changed == other else self._normal[changed])

    def _produce(self, left, right, literals):
        """Add the rule from the greatest literal of an instance, if the instance produces it."""
        self._normalize_up_to(left)
        if self._normal[left] != left:
            return
        for positive, first, second in literals:
            if positive == (self._normal[first] == self._normal[second]):
                return
            others = [pair[1] for pair in ((first, second), (second, first)) if pair[0] == left]
            if positive and right not in others and self._normal[right] in [self._normal[part] for part in others]:
                return
        self._rules.append((left, right))
        self._normal[left] = self._normal[right]


def check_instance_count(clauses, values):
    """Make sure that the clauses do not have too many ground instances by this many ground terms."""
    total = 0
    for clause in clauses:
        count = 1
        for _ in clause_variables(clause):
            count = count * values
        total += count
    if total > MOST_INSTANCES:
        raise TooLarge("instances")


def value_rows(values, length):
    """Return the tuples of this many of the values."""
    rows = [()]
    for _ in range(length):
        rows = [row + (value,) for row in rows for value in values]
    return rows


def clause_key(literals):
    """Return a tuple that is greater for an instance that is greater in the ordering of clauses.

    Of two multisets over things of which one is always the greater one, that
    one is greater that comes later when both are sorted, greatest first.
    """
    return tuple(sorted([literal_key(literal) for literal in literals], reverse=True))


def literal_key(literal):
    """Return the terms of the literal, greatest first."""
    positive, left, right = literal
    high = max(left, right)
    low = min(left, right)
    return (high, low) if positive else (high, high, low, low)


def may_produce(key):
    """Return True if the greatest literal is positive, has two different sides, and is strictly maximal."""
    return len(key[0]) == 2 and key[0][0] != key[0][1] and key[1:2] != key[:1]
