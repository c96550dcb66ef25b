"""Saturated lists of clauses: those from which nothing new can be inferred."""

from elenchus.equality import each_factoring, each_resolution
from elenchus.selection import check_selection
from elenchus.simplify import Reducer, reduces
from elenchus.superposition import each_superposition


def open_inference(ordering, selection, clauses):
    """Return the first inference of the clauses whose conclusion does not reduce in them, or None."""
    check_selection(selection)
    reducer = Reducer(ordering, clauses)
    found = open_superposition(ordering, selection, clauses, reducer)
    for number, clause in enumerate(clauses):
        if found is None:
            found = open_inference_of_one(ordering, selection, clause, number, reducer)
    return found


def open_superposition(ordering, selection, clauses, reducer):
    """Return the first superposition whose conclusion does not reduce, or None."""
    for i, first in enumerate(clauses):
        for j, second in enumerate(clauses):
            for row in each_superposition(ordering, selection, first, second):
                if not reducer.accepts(row[2]):
                    return ("superposition", i, j, row[0], row[1], row[2])
    return None


def open_inference_of_one(ordering, selection, clause, number, reducer):
    """Return the first resolution or factoring of the clause whose conclusion does not reduce, or None."""
    for row in each_resolution(ordering, selection, clause):
        if not reducer.accepts(row[1]):
            return ("resolution", number, row[0], row[1])
    for row in each_factoring(ordering, selection, clause):
        if not reducer.accepts(row[2]):
            return ("factoring", number, row[0], row[1], row[2])
    return None


def covers(ordering, clauses, clause):
    """Return True if the list covers the clause: if the clause reduces in it."""
    return reduces(ordering, clause, clauses)
