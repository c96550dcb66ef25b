"""Finite structures, and what holds in them."""

from elenchus.clauses import clause_variables
from elenchus.errors import InvalidStructure, MissingVariable
from elenchus.formulas import free_variables
from elenchus.integers import is_integer
from elenchus.terms import TRUE, is_variable


class Structure:
    """The elements from 0 to the size minus 1, with tables for functions and predicates."""

    def __init__(self, size, functions, predicates):
        if not is_integer(size) or size < 1:
            raise InvalidStructure("the size is not an integer of at least 1")
        for symbol in functions:
            check_keys(functions[symbol], size)
            check_function_values(functions[symbol], size)
        for symbol in predicates:
            check_keys(predicates[symbol], size)
            check_predicate_values(predicates[symbol])
        self._size = size
        self._functions = copied_tables(functions)
        self._predicates = copied_tables(predicates)

    @property
    def size(self):
        """The number of elements."""
        return self._size

    def functions(self):
        """Return a copy of the table for functions."""
        return copied_tables(self._functions)

    def predicates(self):
        """Return a copy of the table for predicates."""
        return copied_tables(self._predicates)

    def value(self, term, assignment):
        """Return the element that the term stands for."""
        if is_variable(term):
            if term not in assignment:
                raise MissingVariable(term)
            return assignment[term]
        row = tuple([self.value(argument, assignment) for argument in term[1:]])
        return self._functions.get(term[0], {}).get(row, 0)

    def literal_holds(self, literal, assignment):
        """Return True if the literal holds under the assignment."""
        positive, left, right = literal
        if right != TRUE:
            return positive == (self.value(left, assignment) == self.value(right, assignment))
        if left == TRUE:
            return positive
        row = tuple([self.value(argument, assignment) for argument in left[1:]])
        return positive == self._predicates.get(left[0], {}).get(row, False)

    def clause_holds_at(self, clause, assignment):
        """Return True if the clause holds under the assignment."""
        for literal in clause:
            if self.literal_holds(literal, assignment):
                return True
        return False

    def formula_holds_at(self, formula, assignment):
        """Return True if the formula holds under the assignment."""
        kind = formula[0]
        if kind in ("true", "false"):
            return kind == "true"
        if kind == "equal":
            return self.literal_holds((True, formula[1], formula[2]), assignment)
        if kind in ("all", "some"):
            return self._quantifier_holds_at(formula, assignment)
        first = self.formula_holds_at(formula[1], assignment)
        if kind == "not":
            return not first
        # The second part counts, and is evaluated, only if the first one leaves it open.
        if (kind == "and" and not first) or (kind == "or" and first):
            return first
        if kind == "implies" and not first:
            return True
        second = self.formula_holds_at(formula[2], assignment)
        return first == second if kind == "iff" else second

    def _quantifier_holds_at(self, formula, assignment):
        quantifier, name, inner = formula
        decisive = quantifier == "some"
        for element in range(self._size):
            if self.formula_holds_at(inner, {**assignment, name: element}) == decisive:
                return decisive
        return not decisive

    def completed(self, signature):
        """Return the structure with exactly the signature's symbols and an entry for each row."""
        functions = {}
        for symbol, arity in signature.functions():
            functions[symbol] = completed_table(self._functions.get(symbol, {}), self._size, arity, 0)
        predicates = {}
        for symbol, arity in signature.predicates():
            predicates[symbol] = completed_table(self._predicates.get(symbol, {}), self._size, arity, False)
        return Structure(self._size, functions, predicates)

    def renamed(self, signature, permutation):
        """Return the completed structure with `permutation[i]` in place of each element i."""
        complete = self.completed(signature)
        rows = renamed_rows(complete.functions(), permutation)
        functions = {}
        for symbol in rows:
            table = rows[symbol]
            functions[symbol] = {row: permutation[table[row]] for row in table}
        return Structure(self._size, functions, renamed_rows(complete.predicates(), permutation))

    def __eq__(self, other):
        return (isinstance(other, Structure) and self._size == other._size
                and self._functions == other._functions and self._predicates == other._predicates)


def is_element(value, size):
    """Return True if the value is an element of a structure of this size."""
    return is_integer(value) and 0 <= value < size


def check_keys(table, size):
    """Make sure that all keys of a symbol's dict are tuples of elements."""
    for row in table:
        if not isinstance(row, tuple):
            raise InvalidStructure("a key is not a tuple")
        for value in row:
            if not is_element(value, size):
                raise InvalidStructure("a key is not a tuple of elements")


def check_function_values(table, size):
    """Make sure that all values of a function's dict are elements."""
    for row in table:
        if not is_element(table[row], size):
            raise InvalidStructure("a value is no element")


def check_predicate_values(table):
    """Make sure that all values of a predicate's dict are True or False."""
    for row in table:
        if not isinstance(table[row], bool):
            raise InvalidStructure("a value is neither True nor False")


def copied_tables(tables):
    """Return a copy of a table for functions or predicates, without empty dicts."""
    result = {}
    for symbol in tables:
        table = tables[symbol]
        if table:
            result[symbol] = {row: table[row] for row in table}
    return result


def completed_table(table, size, arity, missing):
    """Return a symbol's dict with an entry for each row."""
    return {row: table.get(row, missing) for row in argument_rows(size, arity)}


def renamed_rows(tables, permutation):
    """Return the tables with `permutation[i]` in place of i in the keys of their dicts."""
    result = {}
    for symbol in tables:
        table = tables[symbol]
        result[symbol] = {tuple([permutation[value] for value in row]): table[row] for row in table}
    return result


def argument_rows(size, arity):
    """Return the list of all tuples of this many elements in ascending order."""
    rows = [()]
    for _ in range(arity):
        rows = [row + (element,) for row in rows for element in range(size)]
    return rows


def assignments(names, size):
    """Yield all dicts from the variables of the list to elements in ascending order."""
    values = [0] * len(names)
    while True:
        yield dict(zip(names, values))
        at = len(values) - 1
        while at >= 0 and values[at] == size - 1:
            values[at] = 0
            at -= 1
        if at < 0:
            return
        values[at] += 1


def clause_holds(structure, clause):
    """Return True if the clause holds in the structure."""
    return counterexample(structure, clause) is None


def formula_holds(structure, formula):
    """Return True if the formula holds in the structure."""
    names = free_variables(formula)
    for assignment in assignments(names, structure.size):
        if not structure.formula_holds_at(formula, assignment):
            return False
    return True


def counterexample(structure, clause):
    """Return the first assignment under which the clause does not hold, or None."""
    for assignment in assignments(clause_variables(clause), structure.size):
        if not structure.clause_holds_at(clause, assignment):
            return assignment
    return None
