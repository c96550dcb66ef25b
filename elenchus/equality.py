"""Equality resolution and equality factoring."""

from elenchus.clauses import is_equation, without_literal
from elenchus.inferences import concluded, is_not_below
from elenchus.places import positive_sides, sides
from elenchus.selection import check_selection, eligible
from elenchus.unify import unify


def resolve(ordering, selection, clause, index):
    """Return (conclusion, raw, substitution) of one equality resolution, or None if it does not exist."""
    check_selection(selection)
    if index not in negative_equations(clause):
        return None
    _, left, right = clause[index]
    unifier = unify(left, right)
    if unifier is None or not eligible(ordering, clause, index, unifier, selection):
        return None
    return concluded(without_literal(clause, index), unifier)


def resolutions(ordering, selection, clause):
    """Return (index, conclusion, raw, substitution) of every equality resolution of the clause."""
    check_selection(selection)
    return list(each_resolution(ordering, selection, clause))


def each_resolution(ordering, selection, clause):
    """Yield what `resolutions` returns, each only when it is asked for."""
    for index in negative_equations(clause):
        result = resolve(ordering, selection, clause, index)
        if result is not None:
            yield (index,) + result


def negative_equations(clause):
    """Return the indexes of the negative equation literals."""
    return [index for index, literal in enumerate(clause) if not literal[0] and is_equation(literal)]


def factor(ordering, selection, clause, first, second):
    """Return (conclusion, raw, substitution) of one equality factoring, or None if it does not exist."""
    check_selection(selection)
    places = positive_sides(clause)
    if first not in places or second not in places or first[0] == second[0]:
        return None
    literal = clause[first[0]]
    other = clause[second[0]]
    if is_equation(literal) != is_equation(other):
        return None
    old, new = sides(literal, first[1])
    other_old, other_new = sides(other, second[1])
    unifier = unify(old, other_old)
    if unifier is None or not is_not_below(ordering, unifier, old, new):
        return None
    if not eligible(ordering, clause, first[0], unifier, selection):
        return None
    left = without_literal(clause, first[0])
    if is_equation(literal):
        left += ((False, new, other_new),)
    return concluded(left, unifier)


def factorings(ordering, selection, clause):
    """Return (first, second, conclusion, raw, substitution) of every equality factoring of the clause."""
    check_selection(selection)
    return list(each_factoring(ordering, selection, clause))


def each_factoring(ordering, selection, clause):
    """Yield what `factorings` returns, each only when it is asked for."""
    places = positive_sides(clause)
    for first in places:
        for second in places:
            result = factor(ordering, selection, clause, first, second)
            if result is not None:
                yield (first, second) + result
