"""Formulas: their symbols, their variables and their literals."""

from elenchus.errors import ArityError, KindError, TooLarge, UnknownSymbol
from elenchus.terms import TRUE, is_variable, replace_variables, variables_of

GREATEST_ARITY = 8


class Signature:
    """Symbols, each with a kind and an arity, in the order in which they were added."""

    def __init__(self):
        self._kinds = {}
        self._arities = {}

    def add_function(self, symbol, arity):
        """Add a function."""
        self._add_symbol(symbol, "function", arity)

    def add_predicate(self, symbol, arity):
        """Add a predicate."""
        self._add_symbol(symbol, "predicate", arity)

    def _add_symbol(self, symbol, kind, arity):
        if arity > GREATEST_ARITY:
            raise TooLarge("arguments")
        if symbol == TRUE[0]:
            return
        if self._kinds.get(symbol, kind) != kind:
            raise KindError(symbol)
        if self._arities.get(symbol, arity) != arity:
            raise ArityError(symbol, self._arities[symbol], arity)
        self._kinds[symbol] = kind
        self._arities[symbol] = arity

    def functions(self):
        """Return the list of the pairs (symbol, arity) of the functions."""
        return self._pairs("function")

    def predicates(self):
        """Return the list of the pairs (symbol, arity) of the predicates."""
        return self._pairs("predicate")

    def _pairs(self, kind):
        return [(symbol, self._arities[symbol]) for symbol in self._kinds if self._kinds[symbol] == kind]

    def arity(self, symbol):
        """Return the arity of the symbol."""
        if symbol not in self._arities:
            raise UnknownSymbol(symbol)
        return self._arities[symbol]

    def is_predicate(self, symbol):
        """Return True if the symbol is a predicate, and False if it is a function."""
        if symbol not in self._kinds:
            raise UnknownSymbol(symbol)
        return self._kinds[symbol] == "predicate"

    def __contains__(self, symbol):
        return symbol in self._kinds

    def __len__(self):
        return len(self._kinds)


def formula_signature(formulas):
    """Return the signature of the symbols that occur in the formulas."""
    signature = Signature()
    for formula in formulas:
        for literal in formula_literals(formula):
            add_literal(signature, literal)
    return signature


def clause_signature(clauses):
    """Return the signature of the symbols that occur in the clauses."""
    signature = Signature()
    for clause in clauses:
        for literal in clause:
            add_literal(signature, literal)
    return signature


def add_literal(signature, literal):
    """Add the symbols of the literal from left to right."""
    _, left, right = literal
    if right == TRUE:
        signature.add_predicate(left[0], len(left) - 1)
        add_functions(signature, left[1:])
    else:
        add_functions(signature, (left, right))


def add_functions(signature, terms):
    """Add the symbols of the terms, each before its arguments."""
    for term in terms:
        if not is_variable(term):
            signature.add_function(term[0], len(term) - 1)
            add_functions(signature, term[1:])


def parts(formula):
    """Return the formulas directly below a formula, from left to right."""
    kind = formula[0]
    if kind in ("true", "false", "equal"):
        return ()
    if kind in ("all", "some"):
        return formula[2:]
    return formula[1:]


def with_parts(formula, new_parts):
    """Return the formula with other formulas in place of its parts."""
    return formula[:len(formula) - len(new_parts)] + tuple(new_parts)


def free_variables(formula):
    """Return the names of the free variables in ascending order."""
    return sorted(first_free_variables(formula))


def first_free_variables(formula):
    """Return the names of the free variables in the order of their first free occurrence."""
    found = {}
    waiting = [(formula, ())]
    while waiting:
        part, bound = waiting.pop()
        if part[0] == "equal":
            for name in variables_of([part[1], part[2]]):
                if name not in bound:
                    found[name] = True
        if part[0] in ("all", "some"):
            bound += (part[1],)
        for inner in parts(part)[::-1]:
            waiting.append((inner, bound))
    return list(found)


def formula_literals(formula):
    """Return the literal (True, left, right) of each equation or atom from left to right."""
    found = []
    waiting = [formula]
    while waiting:
        part = waiting.pop()
        if part[0] == "equal":
            found.append((True, part[1], part[2]))
        waiting.extend(parts(part)[::-1])
    return found


def replace_free(formula, new):
    """Return the formula with `new[x]` in place of each free variable x that is a key of `new`.

    No quantifier of the formula binds a key of `new` or a variable of its terms.
    """
    if formula[0] == "equal":
        return ("equal", replace_variables(formula[1], new), replace_variables(formula[2], new))
    return with_parts(formula, [replace_free(part, new) for part in parts(formula)])
