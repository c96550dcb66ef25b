"""Superposition: an equation replaces a part of another clause, or an atom meets its negation."""

from elenchus.clauses import is_equation, rename_apart, without_literal
from elenchus.inferences import concluded, is_not_below
from elenchus.places import meeting_places, positive_sides, replace_in, sides
from elenchus.selection import check_selection, eligible
from elenchus.terms import subterm_at
from elenchus.unify import unify


def superpose(ordering, selection, first, second, source, target):
    """Return (conclusion, raw, substitution) of one superposition, or None if it does not exist."""
    check_selection(selection)
    if source not in positive_sides(first) or target not in allowed_targets(first[source[0]], second):
        return None
    return superposed(ordering, selection, first, rename_apart(first, second), source, target)


def superpositions(ordering, selection, first, second):
    """Return (source, target, conclusion, raw, substitution) of every superposition from the first into the second."""
    check_selection(selection)
    return list(each_superposition(ordering, selection, first, second))


def each_superposition(ordering, selection, first, second):
    """Yield what `superpositions` returns, each only when it is asked for."""
    renamed = rename_apart(first, second)
    for source in positive_sides(first):
        for target in allowed_targets(first[source[0]], renamed):
            result = superposed(ordering, selection, first, renamed, source, target)
            if result is not None:
                yield (source, target) + result


def allowed_targets(literal, clause):
    """Return the places of the clause that are targets for the literal of the first clause."""
    return [place for place in meeting_places(literal, clause)
            if is_equation(literal) or not clause[place[0]][0]]


def superposed(ordering, selection, first, second, source, target):
    """Return the inference at an allowed target, or None; the clauses share no variables."""
    index, side = source
    place, target_side, position = target
    old, new = sides(first[index], side)
    outer, other = sides(second[place], target_side)
    unifier = unify(old, subterm_at(outer, position))
    if unifier is None:
        return None
    if not is_not_below(ordering, unifier, old, new) or not is_not_below(ordering, unifier, outer, other):
        return None
    if not eligible(ordering, first, index, unifier, selection, strictly=True):
        return None
    if not eligible(ordering, second, place, unifier, selection, strictly=second[place][0]):
        return None
    if is_equation(first[index]):
        changed = replace_in(second, target, new)
    else:
        changed = without_literal(second, place)
    return concluded(without_literal(first, index) + changed, unifier)
