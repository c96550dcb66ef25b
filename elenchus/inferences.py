"""What all inferences have in common."""

from elenchus.clauses import apply_clause, normal
from elenchus.simplify import clean
from elenchus.unify import apply


def is_not_below(ordering, substitution, term, other):
    """Return True if the term, after the substitution, is neither less than the other one nor equal to it."""
    return ordering.compare(apply(substitution, term), apply(substitution, other)) not in ("less", "equal")


def concluded(literals, substitution):
    """Return the conclusion, the raw conclusion and the substitution, which is not yet applied to the literals."""
    raw = apply_clause(substitution, literals)
    return normal(clean(raw)), raw, substitution
