"""Clauses: what their literals have to do with each other, their normal form and their variables."""

from elenchus.terms import TRUE, replace_variables, shift, size, variables_of
from elenchus.unify import apply, match_all


def is_equation(literal):
    """Return True for an equation literal, and False for an atom literal."""
    return literal[2] != TRUE


def alike(literal, other):
    """Return True if the literals are the same, or equations that are the same with exchanged sides."""
    if literal == other:
        return True
    return is_equation(literal) and is_equation(other) and literal == exchanged(other)


def exchanged(literal):
    """Return the literal with its sides exchanged."""
    positive, left, right = literal
    return (positive, right, left)


def opposite(literal, other):
    """Return True if the literals differ in their signs and would be alike with one sign."""
    return literal[0] != other[0] and alike((other[0],) + literal[1:], other)


def is_tautology(clause):
    """Return True if a literal of the clause says that s = s, or two of them are opposite."""
    for index, literal in enumerate(clause):
        positive, left, right = literal
        if positive and left == right:
            return True
        if any([opposite(literal, other) for other in clause[:index]]):
            return True
    return False


def normal(clause):
    """Return the normal form of the clause."""
    kept = []
    for literal in clause:
        if not any([alike(literal, other) for other in kept]):
            kept.append(literal)
    return numbered(kept)


def numbered(literals):
    """Return the clause of the literals, with variables numbered from 0 in the order of their first occurrence."""
    new = {variable: number for number, variable in enumerate(clause_variables(literals))}
    return tuple([(positive, replace_variables(left, new), replace_variables(right, new))
                  for positive, left, right in literals])


def literal_weight(literal):
    """Return the weight of the literal."""
    weight = size(literal[1])
    return weight + size(literal[2]) if is_equation(literal) else weight


def clause_weight(clause):
    """Return the weight of the clause."""
    return sum([literal_weight(literal) for literal in clause])


def clause_variables(clause):
    """Return the clause's variables in the order of their first occurrence."""
    return variables_of([side for literal in clause for side in literal[1:]])


def shift_clause(clause, by):
    """Return the clause with `i + by` in place of each variable `i`."""
    return tuple([(positive, shift(left, by), shift(right, by)) for positive, left, right in clause])


def rename_apart(first, second):
    """Return the second clause with greater variables than those of the first one."""
    return shift_clause(second, max(clause_variables(first), default=-1) + 1)


def apply_clause(substitution, clause):
    """Return the clause after the substitution."""
    return tuple([(positive, apply(substitution, left), apply(substitution, right))
                  for positive, left, right in clause])


def without_literal(clause, index):
    """Return the clause without the literal at the index."""
    return clause[:index] + clause[index + 1:]


def matchings(literal, other):
    """Return the substitutions that make the sides of the literal those of the other one; signs do not count.

    The sides as written come first; those of two equations also match in the opposite order.
    """
    if is_equation(literal) != is_equation(other):
        return []
    orders = [other, exchanged(other)] if is_equation(other) else [other]
    found = []
    for _, left, right in orders:
        bound = match_all([(literal[1], left), (literal[2], right)])
        if bound is not None and bound not in found:
            found.append(bound)
    return found
