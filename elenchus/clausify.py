"""The clause form of formulas."""

from elenchus.clauses import numbered
from elenchus.errors import TooLarge
from elenchus.formulas import formula_literals
from elenchus.negation import negation_normal
from elenchus.show import show_literal
from elenchus.skolem import close, rename_bound, skolemize
from elenchus.terms import symbols


def matrix_clauses(matrix, *, limit=200):
    """Return the list of the clauses of a matrix."""
    clause_count(matrix, limit)
    return [numbered(list(literals.values())) for literals in literal_dicts(matrix)]


def clause_count(matrix, limit):
    """Return the number of clauses of the matrix; raise TooLarge if a subformula has more than the limit."""
    count = 1
    if matrix[0] == "true":
        count = 0
    elif matrix[0] in ("and", "or"):
        first = clause_count(matrix[1], limit)
        second = clause_count(matrix[2], limit)
        count = first + second if matrix[0] == "and" else first * second
    if count > limit:
        raise TooLarge("clauses")
    return count


def literal_dicts(matrix):
    """Return the clauses of the matrix as dicts from the written form of a literal to the literal.

    So a literal that occurs for the second time in a clause is left out of it.
    """
    kind = matrix[0]
    if kind == "true":
        return []
    if kind == "false":
        return [{}]
    if kind == "and":
        return literal_dicts(matrix[1]) + literal_dicts(matrix[2])
    if kind == "or":
        second = literal_dicts(matrix[2])
        return [{**left, **right} for left in literal_dicts(matrix[1]) for right in second]
    _, left, right = matrix[1] if kind == "not" else matrix
    literal = (kind == "equal", left, right)
    return [{show_literal(literal): literal}]


class ClauseForm:
    """The named clauses of a list of formulas, and the Skolemizations that they come from."""

    def __init__(self, named_clauses, skolemizations):
        self.named_clauses = named_clauses
        self.skolemizations = skolemizations

    def __len__(self):
        return len(self.named_clauses)

    def __iter__(self):
        return iter(self.named_clauses)


def clausify(axioms, *, limit=200):
    """Return the ClauseForm of a list of pairs of a name and a formula."""
    taken = symbols_of([formula for _, formula in axioms])
    named_clauses = []
    skolemizations = []
    for name, formula in axioms:
        closed = rename_bound(negation_normal(close(formula)))
        skolemization = skolemize(closed, taken=taken)
        for clause in matrix_clauses(skolemization.matrix, limit=limit):
            named_clauses.append((name, clause))
        skolemizations.append(skolemization)
        taken.extend(skolemization.skolem_symbols)
    return ClauseForm(named_clauses, skolemizations)


def symbols_of(formulas):
    """Return the list of all symbols of the formulas, without duplicates."""
    found = {}
    for formula in formulas:
        for _, left, right in formula_literals(formula):
            for symbol, _ in symbols(left) + symbols(right):
                found[symbol] = True
    return list(found)
