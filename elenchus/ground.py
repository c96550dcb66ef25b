"""Propositional clauses that say in which structures of one size clauses hold."""

from elenchus.clauses import clause_variables, is_equation
from elenchus.errors import InvalidStructure, TooLarge, UnknownSymbol
from elenchus.formulas import clause_signature
from elenchus.integers import is_integer
from elenchus.structures import Structure, argument_rows, assignments, is_element
from elenchus.terms import TRUE, is_variable

MOST_VARIABLES = 20000
MOST_INSTANCES = 20000


class Grounding:
    """Clauses for a size; a propositional variable is a number, and says what one entry of a table is."""

    def __init__(self, clauses, size):
        if not is_integer(size) or size < 1:
            raise InvalidStructure("the size is not an integer of at least 1")
        signature = clause_signature(clauses)
        self._size = size
        self._functions = {symbol: arity for symbol, arity in signature.functions()}
        self._predicates = {symbol: arity for symbol, arity in signature.predicates()}
        # For each symbol the number before that of its first variable.
        self._offsets = {}
        self._count = 0
        for symbol in self._functions:
            self._offsets[symbol] = self._count
            self._count += power(size, self._functions[symbol] + 1)
        for symbol in self._predicates:
            self._offsets[symbol] = self._count
            self._count += power(size, self._predicates[symbol])
        self._flat_clauses = [FlatClause(clause) for clause in clauses]
        if self._count > MOST_VARIABLES:
            raise TooLarge("variables")
        if sum([power(size, len(flat.names)) for flat in self._flat_clauses]) > MOST_INSTANCES:
            raise TooLarge("instances")

    @property
    def variable_count(self):
        """The number of propositional variables."""
        return self._count

    def clauses(self):
        """Return the list of the propositional clauses."""
        found = []
        for symbol in self._functions:
            for row in argument_rows(self._size, self._functions[symbol]):
                first = self.number(symbol, row, 0)
                numbers = list(range(first, first + self._size))
                found.append(numbers)
                for place, number in enumerate(numbers):
                    for other in numbers[place + 1:]:
                        found.append([-number, -other])
        for flat in self._flat_clauses:
            for bound in assignments(flat.names, self._size):
                instance = self._instance(flat, bound)
                if instance is not None:
                    found.append(instance)
        return found

    def meaning(self, number):
        """Return what the variable says: a symbol, a tuple of elements, and the value of a function."""
        for symbol in self._functions:
            offset = number - 1 - self._offsets[symbol]
            if 0 <= offset < power(self._size, self._functions[symbol] + 1):
                return (symbol, self._row(offset // self._size, self._functions[symbol]), offset % self._size)
        for symbol in self._predicates:
            offset = number - 1 - self._offsets[symbol]
            if 0 <= offset < power(self._size, self._predicates[symbol]):
                return (symbol, self._row(offset, self._predicates[symbol]))
        raise UnknownSymbol(number)

    def number(self, symbol, arguments, element=None):
        """Return the number of the variable."""
        arity = self._predicates.get(symbol) if element is None else self._functions.get(symbol)
        if arity is None or len(arguments) != arity:
            raise UnknownSymbol(symbol)
        row = tuple(arguments) if element is None else tuple(arguments) + (element,)
        index = 0
        for value in row:
            if not is_element(value, self._size):
                raise UnknownSymbol(symbol)
            index = index * self._size + value
        return self._offsets[symbol] + index + 1

    def structure(self, numbers):
        """Return the structure that the set of the variables in the list describes."""
        true = {number: True for number in numbers}
        functions = {}
        for symbol in self._functions:
            rows = argument_rows(self._size, self._functions[symbol])
            functions[symbol] = {row: self._value(symbol, row, true) for row in rows}
        predicates = {}
        for symbol in self._predicates:
            rows = argument_rows(self._size, self._predicates[symbol])
            predicates[symbol] = {row: self.number(symbol, row) in true for row in rows}
        return Structure(self._size, functions, predicates)

    def _value(self, symbol, row, true):
        """Return the least element that is the value of the function, or 0 if there is none."""
        for element in range(self._size):
            if self.number(symbol, row, element) in true:
                return element
        return 0

    def _row(self, index, arity):
        """Return the tuple of elements at the index of all tuples of this many."""
        row = ()
        for _ in range(arity):
            row = (index % self._size,) + row
            index = index // self._size
        return row

    def _instance(self, flat, bound):
        """Return a propositional clause for an assignment of a flat clause, or None if it is left out."""
        found = {}
        for name, symbol, arguments in flat.definitions:
            row = tuple([bound[argument] for argument in arguments])
            found[-self.number(symbol, row, bound[name])] = True
        for positive, left, right in flat.literals:
            if right != TRUE:
                known = bound[left] == bound[right]
            elif left == TRUE:
                known = True
            else:
                number = self.number(left[0], tuple([bound[argument] for argument in left[1:]]))
                found[number if positive else -number] = True
                continue
            if known == positive:
                return None
        if any([-number in found for number in found]):
            return None
        return list(found)


class FlatClause:
    """A clause in which variables stand for all applications that are arguments or sides of equations."""

    def __init__(self, clause):
        own = clause_variables(clause)
        self._next = max(own, default=-1) + 1
        # From the symbol and the arguments of an application to its variable.
        self._known = {}
        self.literals = [self._flat_literal(literal) for literal in clause]
        self.definitions = [(self._known[row], row[0], row[1:]) for row in self._known]
        self.names = own + [self._known[row] for row in self._known]

    def _flat_literal(self, literal):
        positive, left, right = literal
        if is_equation(literal):
            return (positive, self._variable(left), self._variable(right))
        return (positive, (left[0],) + tuple([self._variable(part) for part in left[1:]]), right)

    def _variable(self, term):
        """Return the variable that stands for the term."""
        if is_variable(term):
            return term
        row = (term[0],) + tuple([self._variable(part) for part in term[1:]])
        if row not in self._known:
            self._known[row] = self._next
            self._next += 1
        return self._known[row]


def power(base, exponent):
    """Return the product of this many times the base."""
    result = 1
    for _ in range(exponent):
        result = result * base
    return result
