"""Simplifying clauses by clauses of one literal."""

from elenchus.clauses import is_tautology, matchings, without_literal
from elenchus.ordering import compare_clauses
from elenchus.places import leading_sides, may_meet, meeting_places, replace_in, sides, term_places
from elenchus.subsumption import subsumes
from elenchus.terms import is_variable, replace_variables, subterm_at, variables
from elenchus.unify import match


def clean(clause):
    """Return the clause without its trivial literals."""
    return tuple([literal for literal in clause if literal[0] or literal[1] != literal[2]])


def rewrite_at(ordering, clause, rule, rule_side, index, side, position):
    """Return the rewritten clause and the substitution, or None if the rule does not rewrite the clause there."""
    if len(rule) != 1 or not rule[0][0] or rule_side not in leading_sides(rule[0]):
        return None
    place = (index, side, position)
    if place not in meeting_places(rule[0], clause):
        return None
    return rewriting(ordering, clause, rule[0], rule_side, place)


def rewriting(ordering, clause, literal, rule_side, place):
    """Return what the literal of a rule makes of a clause at a place where they may meet, or None."""
    index, side, position = place
    old, new = sides(literal, rule_side)
    part = subterm_at(clause[index][1 + side], position)
    bound = match(old, part)
    if bound is None or not has_all_variables(old, new):
        return None
    result = replace_variables(new, bound)
    if ordering.compare(part, result) != "greater":
        return None
    if compare_clauses(ordering, ((True, part, result),), clause) != "less":
        return None
    return replace_in(clause, place, result), bound


def has_all_variables(term, other):
    """Return True if every variable of the other term occurs in the term."""
    names = variables(term)
    return all([name in names for name in variables(other)])


def cut_at(clause, cutter, index):
    """Return the clause without the literal at the index and the substitution, or None if it is not cut."""
    if len(cutter) != 1 or cutter[0][0] or not 0 <= index < len(clause) or not clause[index][0]:
        return None
    found = matchings(cutter[0], clause[index])
    return (without_literal(clause, index), found[0]) if found else None


def simplify(ordering, clause, units):
    """Return what is left of the clause when it is simplified by the units, and the list of the steps."""
    rules = oriented_rules(units)
    cutters = cutters_of(units)
    result = clause
    steps = []
    step = next_step(ordering, result, rules, cutters)
    while step is not None:
        steps.append(step)
        result = step[1]
        step = next_step(ordering, result, rules, cutters)
    return result, steps


def oriented_rules(units):
    """Return a tuple (symbol, number, literal, side) for each side of a positive unit that can be rewritten.

    The symbol is that of the side, or None for a variable.
    """
    found = []
    for number, unit in units:
        literal = unit[0]
        for side in leading_sides(literal) if literal[0] else ():
            old, new = sides(literal, side)
            if has_all_variables(old, new):
                found.append((None if is_variable(old) else old[0], number, literal, side))
    return found


def cutters_of(units):
    """Return the negative units."""
    return [(number, unit) for number, unit in units if not unit[0][0]]


def next_step(ordering, clause, rules, cutters):
    """Return the first step that simplifies the clause, or None."""
    cleaned = clean(clause)
    if len(cleaned) < len(clause):
        return ("clean", cleaned)
    step = first_rewriting(ordering, clause, rules)
    return first_cut(clause, cutters) if step is None else step


def first_rewriting(ordering, clause, rules):
    """Return the step of the first possible rewriting, or None."""
    for index, side, position in term_places(clause) if rules else []:
        literal = clause[index]
        part = subterm_at(literal[1 + side], position)
        for symbol, number, rule, rule_side in rules:
            if symbol in (None, part[0]) and may_meet(rule, literal, side, position):
                found = rewriting(ordering, clause, rule, rule_side, (index, side, position))
                if found is not None:
                    return ("rewrite", found[0], number, rule_side, index, side, position, found[1])
    return None


def first_cut(clause, cutters):
    """Return the step of the first possible cut, or None."""
    for index in range(len(clause)):
        for number, cutter in cutters:
            found = cut_at(clause, cutter, index)
            if found is not None:
                return ("cut", found[0], number, index, found[1])
    return None


def reduces(ordering, clause, clauses):
    """Return True if the clause reduces in the list of clauses."""
    return Reducer(ordering, clauses).accepts(clause)


class Reducer:
    """A list of clauses, in which many clauses may be asked to reduce."""

    def __init__(self, ordering, clauses):
        units = [(number, unit) for number, unit in enumerate(clauses) if len(unit) == 1]
        self._ordering = ordering
        self._clauses = list(clauses)
        self._rules = oriented_rules(units)
        self._cutters = cutters_of(units)

    def accepts(self, clause):
        """Return True if the clause reduces in the list."""
        current = clause
        while not is_redundant(current, self._clauses):
            step = next_step(self._ordering, current, self._rules, self._cutters)
            if step is None:
                return False
            current = step[1]
        return True


def is_redundant(clause, clauses):
    """Return True if the clause is a tautology or is subsumed by one of the clauses."""
    if is_tautology(clause):
        return True
    for other in clauses:
        if subsumes(other, clause):
            return True
    return False
