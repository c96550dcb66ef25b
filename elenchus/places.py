"""Places in clauses: the index of a literal, a side of it, and a position in that side."""

from elenchus.clauses import is_equation
from elenchus.terms import positions, replace_at


def sides(literal, side):
    """Return the stated side of the literal and the other one."""
    return literal[1 + side], literal[2 - side]


def leading_sides(literal):
    """Return the sides by which a literal takes part in an inference or a rewriting as the first one."""
    return (0, 1) if is_equation(literal) else (0,)


def positive_sides(clause):
    """Return the pairs of an index and a side by which positive literals take part in inferences."""
    return [(index, side) for index, literal in enumerate(clause) if literal[0] for side in leading_sides(literal)]


def may_meet(literal, other, side, position):
    """Return True if the literal may meet the other one there, where there is no variable.

    An equation may replace what is in an atom, but not the atom itself; an
    atom meets nothing but an atom.
    """
    if is_equation(literal):
        return is_equation(other) or (side == 0 and position != ())
    return not is_equation(other) and side == 0 and position == ()


def term_places(clause):
    """Return the places of the clause at which no variable stands, positions in preorder."""
    return [(index, side, position) for index, literal in enumerate(clause) for side in (0, 1)
            for position in positions(literal[1 + side], with_variables=False)]


def meeting_places(literal, clause):
    """Return the places of the clause at which the literal may meet it."""
    return [(index, side, position) for index, side, position in term_places(clause)
            if may_meet(literal, clause[index], side, position)]


def replace_in(clause, place, new):
    """Return the clause with a new term in place of the subterm at the place."""
    index, side, position = place
    literal = clause[index]
    changed = literal[:1 + side] + (replace_at(literal[1 + side], position, new),) + literal[2 + side:]
    return clause[:index] + (changed,) + clause[index + 1:]
