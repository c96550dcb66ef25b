"""The ordering of terms by weights and a precedence."""

from elenchus.errors import InvalidOrdering
from elenchus.integers import is_integer
from elenchus.terms import TRUE, is_variable


class Ordering:
    """An ordering of terms; it has a weight and a rank for every symbol."""

    def __init__(self, weights, precedence):
        check_weights(weights)
        check_precedence(precedence)
        self._weights = {symbol: weights[symbol] for symbol in weights}
        self._precedence = list(precedence)
        self._ranks = {symbol: rank for rank, symbol in enumerate(precedence)}

    @property
    def precedence(self):
        """The list of symbols that the object was made with."""
        return list(self._precedence)

    def symbol_weight(self, symbol):
        """Return the weight of the symbol."""
        return self._weights.get(symbol, 1)

    def ranks_higher(self, first, second):
        """Return True if the first symbol ranks higher than the second one."""
        return self._rank(first) > self._rank(second)

    def _rank(self, symbol):
        """Return a tuple that is greater for a symbol that ranks higher."""
        if symbol == TRUE[0]:
            return (0, 0, "")
        if symbol in self._ranks:
            return (1, self._ranks[symbol], "")
        return (2, 0, symbol)

    def weight(self, term):
        """Return the weight of the term."""
        return self._tally(term, 1, {})

    def _tally(self, term, sign, counts):
        """Return the weight of the term, and add the sign to a variable's count for each of its occurrences."""
        total = 0
        waiting = [term]
        while waiting:
            part = waiting.pop()
            if is_variable(part):
                total += 1
                counts[part] = counts.get(part, 0) + sign
            else:
                total += self._weights.get(part[0], 1)
                waiting.extend(part[1:])
        return total

    def compare(self, first, second):
        """Return "greater", "less", "equal" or "incomparable"."""
        if first == second:
            return "equal"
        # Of each variable, how many times more often it occurs in the first term.
        more = {}
        heavier = self._tally(first, 1, more) - self._tally(second, -1, more)
        if heavier == 0:
            result = self._compare_symbols(first, second)
        else:
            result = "greater" if heavier > 0 else "less"
        surplus = list(more.values())
        if result == "greater" and min(surplus, default=0) < 0:
            return "incomparable"
        if result == "less" and max(surplus, default=0) > 0:
            return "incomparable"
        return result

    def _compare_symbols(self, first, second):
        """Compare two different terms of one weight, their variables aside."""
        if is_variable(first) or is_variable(second):
            return "incomparable"
        if first[0] != second[0]:
            return "greater" if self.ranks_higher(first[0], second[0]) else "less"
        for argument, other in zip(first[1:], second[1:]):
            if argument != other:
                return self.compare(argument, other)
        return "incomparable"


def check_weights(weights):
    """Make sure that the weights are integers of at least 1, and that TRUE has none."""
    for symbol in weights:
        if symbol == TRUE[0]:
            raise InvalidOrdering("true has a weight")
        if not is_integer(weights[symbol]) or weights[symbol] < 1:
            raise InvalidOrdering(f"the weight of {symbol} is not an integer of at least 1")


def check_precedence(precedence):
    """Make sure that no symbol stands twice in the precedence, and TRUE not at all."""
    found = {}
    for symbol in precedence:
        if symbol == TRUE[0]:
            raise InvalidOrdering("true stands in the precedence")
        if symbol in found:
            raise InvalidOrdering(f"{symbol} stands twice in the precedence")
        found[symbol] = True
