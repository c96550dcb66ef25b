"""Which literals of a clause take part in inferences."""

from elenchus.clauses import apply_clause
from elenchus.errors import InvalidSelection
from elenchus.integers import is_integer
from elenchus.ordering import is_maximal


def check_selection(selection):
    """Make sure that the selection is one of the integers 0, 1 and 2."""
    if not is_integer(selection) or not 0 <= selection <= 2:
        raise InvalidSelection(selection)


def selected(ordering, clause, selection):
    """Return the index of the selected literal, or None."""
    check_selection(selection)
    negative = [index for index, literal in enumerate(clause) if not literal[0]]
    if selection == 1:
        return heaviest(ordering, clause, negative)
    if selection == 2:
        for index in negative:
            if is_maximal(ordering, clause, index):
                return index
    return None


def heaviest(ordering, clause, indexes):
    """Return the first index of a literal of the greatest weight, or None without indexes."""
    best = None
    greatest = 0
    for index in indexes:
        _, left, right = clause[index]
        weight = ordering.weight(left) + ordering.weight(right)
        if weight > greatest:
            best = index
            greatest = weight
    return best


def eligible(ordering, clause, index, substitution, selection, *, strictly=False):
    """Return True if the literal at the index is eligible (strictly eligible) under the substitution."""
    chosen = selected(ordering, clause, selection)
    if chosen is not None:
        # A positive literal is never the selected one.
        return chosen == index
    return is_maximal(ordering, apply_clause(substitution, clause), index, strictly=strictly)
