"""Ground terms and ground atoms up to a weight, numbered in ascending order."""

from elenchus.ascending import place_of
from elenchus.clauses import is_equation
from elenchus.errors import TooLarge
from elenchus.terms import TRUE, is_variable, symbols

MOST_TERMS = 500


class Universe:
    """The ground terms and atoms of clauses; the greater one of two has the greater number, and TRUE has 0."""

    def __init__(self, ordering, clauses, weight):
        self._greatest_weight = weight
        self._kinds = ascending_kinds(ordering, clauses)
        self._symbol_weights = [ordering.symbol_weight(kind[0]) for kind in self._kinds]
        # What is found but not yet numbered, in ascending order: tuples of a weight, an index of a kind and arguments.
        self._found = []
        self._terms = [TRUE]
        self._rows = [TRUE]
        self._weights = [1]
        self._numbers = {TRUE: 0}
        self._ground_terms = []
        for index, kind in enumerate(self._kinds):
            if kind[1] == 0:
                self._find(index, ())
        while self._found:
            _, index, row = self._found.pop(0)
            self._number(index, row)

    def _find(self, index, row):
        """Take in an application of a symbol to numbered terms, unless it is too heavy."""
        weight = self._symbol_weights[index] + sum([self._weights[number] for number in row])
        if weight <= self._greatest_weight:
            if len(self._found) + len(self._terms) > MOST_TERMS:
                raise TooLarge("terms")
            found = (weight, index, row)
            self._found.insert(place_of(self._found, found), found)

    def _number(self, index, row):
        """Give the next number to what is least among all that is found, and find what it is an argument of."""
        symbol, _, is_function = self._kinds[index]
        number = len(self._terms)
        self._terms.append((symbol,) + tuple([self._terms[part] for part in row]))
        self._rows.append((symbol,) + row)
        self._weights.append(self._symbol_weights[index] + sum([self._weights[part] for part in row]))
        self._numbers[(symbol,) + row] = number
        if is_function:
            self._ground_terms.append(number)
            for outer, kind in enumerate(self._kinds):
                if kind[1] > 0:
                    for above in self._rows_with_last(kind[1], self._greatest_weight - self._symbol_weights[outer]):
                        self._find(outer, above)

    def _rows_with_last(self, arity, room):
        """Return the tuples of this many ground terms that have the last one and weigh at most `room`."""
        last = self._ground_terms[-1]
        lightest = self._weights[self._ground_terms[0]]
        rows = [((), room - self._weights[last] - (arity - 1) * lightest, False)]
        if rows[0][1] < 0:
            return []
        # Each row comes with what is left when the rest is as light as can be, the last term included.
        for place in range(arity):
            rows = self._lengthened_rows(rows, place == arity - 1)
            if len(rows) > MOST_TERMS:
                raise TooLarge("terms")
        return [entry[0] for entry in rows]

    def _lengthened_rows(self, rows, at_end):
        """Return the rows with one more ground term behind each; at the end, all that have the last one."""
        last = self._ground_terms[-1]
        lightest = self._weights[self._ground_terms[0]]
        longer = []
        for row, left, has_last in rows:
            if has_last or not at_end:
                longer.extend(self._longer_rows(row, left, has_last))
            if has_last:
                spare = left - self._weights[last] + lightest
            else:
                spare = left
            if spare >= 0:
                longer.append((row + (last,), spare, True))
        return longer

    def _longer_rows(self, row, left, has_last):
        """Return the row with each ground term behind it that is light enough, except for the last one."""
        lightest = self._weights[self._ground_terms[0]]
        longer = []
        for number in self._ground_terms[:-1]:
            spare = left - self._weights[number] + lightest
            if spare < 0:
                break
            longer.append((row + (number,), spare, has_last))
        return longer

    def total(self):
        """Return how many numbers there are, with that of TRUE."""
        return len(self._terms)

    def term(self, number):
        """Return the term or atom with the number."""
        return self._terms[number]

    def row(self, number):
        """Return the symbol of the term or atom, and the numbers of its arguments, as one tuple."""
        return self._rows[number]

    def weight_of(self, number):
        """Return the weight of the term or atom."""
        return self._weights[number]

    def ground_terms_only(self):
        """Return the numbers of the ground terms in ascending order."""
        return list(self._ground_terms)

    def number_of_row(self, row):
        """Return the number of a symbol with arguments that have these numbers, or None."""
        return self._numbers.get(row)

    def number_of(self, term, bound):
        """Return the number of the term after each variable is replaced by what has the given number, or None."""
        if is_variable(term):
            return bound.get(term)
        row = (term[0],)
        for argument in term[1:]:
            number = self.number_of(argument, bound)
            if number is None:
                return None
            row += (number,)
        return self._numbers.get(row)


def ascending_kinds(ordering, clauses):
    """Return (symbol, arity, is_function) for each symbol that ground terms and atoms are built from.

    Symbols that rank higher come later. If there is no constant, one is added.
    """
    functions, predicates = symbols_of_clauses(clauses)
    if not [symbol for symbol in functions if functions[symbol] == 0]:
        functions[free_constant({**functions, **predicates})] = 0
    kinds = [(symbol, functions[symbol], True) for symbol in functions]
    kinds += [(symbol, predicates[symbol], False) for symbol in predicates]
    ranked = []
    for kind in kinds:
        rank = len([other for other in kinds if ordering.ranks_higher(kind[0], other[0])])
        ranked.append((rank, kind))
    return [kind for _, kind in sorted(ranked)]


def symbols_of_clauses(clauses):
    """Return the dicts from the functions and the predicates of the clauses to their numbers of arguments."""
    functions = {}
    predicates = {}
    for clause in clauses:
        for literal in clause:
            parts = literal[1:]
            if not is_equation(literal):
                parts = literal[1][1:]
                if literal[1] != TRUE:
                    predicates[literal[1][0]] = len(parts)
            for part in parts:
                for symbol, arity in symbols(part):
                    functions[symbol] = arity
    return functions, predicates


def free_constant(taken):
    """Return the first of c0, c1, .. that is not taken."""
    number = 0
    while f"c{number}" in taken:
        number += 1
    return f"c{number}"
