"""Closed formulas without existential quantifiers, by Skolem functions."""

from elenchus.errors import TooLarge
from elenchus.formulas import first_free_variables, parts, replace_free, with_parts
from elenchus.structures import Structure, argument_rows
from elenchus.terms import replace_variables

MOST_ARGUMENTS = 8


def close(formula):
    """Return the closure of the formula."""
    closed = formula
    for name in first_free_variables(formula)[::-1]:
        closed = ("all", name, closed)
    return closed


def rename_bound(formula):
    """Return the closed formula with its bound variables renamed to `V1`, `V2`, .."""
    renamed, _ = renamed_from(formula, {}, 1)
    return renamed


def renamed_from(formula, names, number):
    """Return the formula with renamed variables, and the next number of a quantifier.

    `names` has the new names of the variables that quantifiers around the formula bind.
    """
    if formula[0] == "equal":
        left = replace_variables(formula[1], names)
        return ("equal", left, replace_variables(formula[2], names)), number
    if formula[0] in ("all", "some"):
        name = f"V{number}"
        inner, number = renamed_from(formula[2], {**names, formula[1]: name}, number + 1)
        return (formula[0], name, inner), number
    new_parts = []
    for part in parts(formula):
        new_part, number = renamed_from(part, names, number)
        new_parts.append(new_part)
    return with_parts(formula, new_parts), number


class Skolemization:
    """A formula without quantifiers, and the records of its Skolem functions."""

    def __init__(self, matrix, records):
        self.matrix = matrix
        self.records = records

    @property
    def skolem_symbols(self):
        """The list of the Skolem symbols in order."""
        return [record[0] for record in self.records]


def skolemize(formula, *, taken=()):
    """Return the Skolemization of a closed formula in normal form with renamed quantifiers."""
    run = SkolemRun(taken)
    matrix = run.matrix_of(formula, (), {})
    return Skolemization(matrix, run.records)


class SkolemRun:
    """What is known while a formula is read from left to right."""

    def __init__(self, taken):
        self._taken = {symbol: True for symbol in taken}
        self._count = 0
        self.records = []

    def matrix_of(self, formula, universal, new):
        """Return the formula without its quantifiers.

        `universal` are the universal variables around it, and `new` has the
        Skolem terms of the existential ones.
        """
        kind = formula[0]
        if kind == "all":
            return self.matrix_of(formula[2], universal + (formula[1],), new)
        if kind == "some":
            term = self._skolem_term(formula, universal, new)
            return self.matrix_of(formula[2], universal, {**new, formula[1]: term})
        if kind == "equal":
            return replace_free(formula, new)
        return with_parts(formula, [self.matrix_of(part, universal, new) for part in parts(formula)])

    def _skolem_term(self, formula, universal, new):
        """Return the term for the variable of an existential quantifier, and keep a record."""
        if len(universal) > MOST_ARGUMENTS:
            raise TooLarge("arguments")
        _, name, body = formula
        symbol = self._next_symbol()
        self.records.append((symbol, universal, name, replace_free(body, new)))
        return (symbol,) + universal

    def _next_symbol(self):
        """Return the next Skolem symbol that is not taken."""
        self._count += 1
        while f"sk{self._count}" in self._taken:
            self._count += 1
        return f"sk{self._count}"


def skolem_tables(structure, skolemization):
    """Return a dict from each Skolem symbol to its table."""
    tables = {}
    for symbol, universal, name, body in skolemization.records:
        functions = {**structure.functions(), **tables}
        extended = Structure(structure.size, functions, structure.predicates())
        table = {}
        for row in argument_rows(structure.size, len(universal)):
            given = dict(zip(universal, row))
            table[row] = least_element(extended, given, name, body)
        tables[symbol] = table
    return tables


def least_element(structure, given, name, body):
    """Return the least element as whose value of the variable the body is true, otherwise 0."""
    for element in range(structure.size):
        if structure.formula_holds_at(body, {**given, name: element}):
            return element
    return 0
