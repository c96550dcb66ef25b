"""Substitutions, matching and unification."""

from elenchus.errors import TooLarge
from elenchus.terms import DEEPEST_NESTING, LARGEST_SIZE, fits, is_variable, replace_variables


def apply(substitution, term):
    """Return the term after the substitution."""
    result = replace_variables(term, substitution)
    if not fits(result):
        raise TooLarge("term")
    return result


def compose(first, second):
    """Return the substitution that has the effect of the first and then the second one."""
    result = {}
    for variable in first:
        result[variable] = apply(second, first[variable])
    for variable in second:
        if variable not in first:
            result[variable] = second[variable]
    return {variable: result[variable] for variable in result if result[variable] != variable}


def match(pattern, term, *, known=None):
    """Return the substitution that turns the pattern into the term, or None."""
    return match_all([(pattern, term)], known=known)


def match_all(pairs, *, known=None):
    """Return the substitution that turns each pattern into its term, or None."""
    bound = {} if known is None else dict(known)
    for pattern, term in pairs:
        if not matches(pattern, term, bound):
            return None
    return bound


def matches(pattern, term, bound):
    """Add to `bound` what turns the pattern into the term; return False if nothing does."""
    if is_variable(pattern):
        if pattern not in bound:
            bound[pattern] = term
        return bound[pattern] == term
    if is_variable(term) or pattern[0] != term[0] or len(pattern) != len(term):
        return False
    for inner, other in zip(pattern[1:], term[1:]):
        if not matches(inner, other, bound):
            return False
    return True


def unify(first, second):
    """Return the most general unifier of the two terms, or None."""
    return unify_all([(first, second)])


def unify_all(pairs):
    """Return the most general unifier of the pairs of terms, or None."""
    graph = TermGraph()
    for first, second in pairs:
        if not graph.make_equal(graph.add_node(first), graph.add_node(second)):
            return None
    order = graph.classes_below_variables()
    if order is None:
        return None
    if not graph.all_fit(order):
        raise TooLarge("term")
    return graph.solution(order)


class TermGraph:
    """Subterms as numbered nodes, joined into classes of nodes that become equal.

    Whole terms are never put together while classes are joined: they can be
    exponentially larger than the terms that are unified.

    Each class has a root. It is an application if the class has one, otherwise
    the least variable of the class.
    """

    def __init__(self):
        self._terms = []
        self._above = []
        self._below = []
        self._nodes = {}

    def add_node(self, term):
        """Return a node for the term: a new one, but always the same for a variable."""
        if is_variable(term):
            if term in self._nodes:
                return self._nodes[term]
            self._nodes[term] = len(self._terms)
        self._terms.append(term)
        self._above.append(len(self._above))
        self._below.append(None)
        return len(self._terms) - 1

    def root(self, node):
        """Return the root of the node's class."""
        top = node
        while self._above[top] != top:
            top = self._above[top]
        while node != top:
            following = self._above[node]
            self._above[node] = top
            node = following
        return top

    def arguments(self, node):
        """Return the roots of the arguments of the node's term, which get nodes when first asked."""
        term = self._terms[node]
        if is_variable(term):
            return []
        if self._below[node] is None:
            self._below[node] = [self.add_node(argument) for argument in term[1:]]
        return [self.root(argument) for argument in self._below[node]]

    def make_equal(self, first, second):
        """Make the two nodes equal, and what follows from that; return False if symbols clash."""
        waiting = [(first, second)]
        while waiting:
            first, second = waiting.pop()
            first = self.root(first)
            second = self.root(second)
            if first == second:
                continue
            left = self._terms[first]
            right = self._terms[second]
            if not is_variable(left) and not is_variable(right):
                if left[0] != right[0] or len(left) != len(right):
                    return False
                for pair in zip(self.arguments(first), self.arguments(second)):
                    waiting.append(pair)
            if is_variable(right) and (not is_variable(left) or left < right):
                self._above[second] = first
            else:
                self._above[first] = second
        return True

    def classes_below_variables(self):
        """Return the roots of the variables and of all below them, arguments first.

        Return None if a class is below itself.
        """
        unfinished = {}
        found = []
        waiting = [(self.root(self._nodes[variable]), False) for variable in list(self._nodes)]
        while waiting:
            node, leaving = waiting.pop()
            if leaving:
                unfinished[node] = False
                found.append(node)
            elif node not in unfinished:
                unfinished[node] = True
                waiting.append((node, True))
                for argument in self.arguments(node):
                    waiting.append((argument, False))
            elif unfinished[node]:
                return None
        return found

    def all_fit(self, order):
        """Return True if the terms of the classes fit; arguments come first in the order."""
        sizes = {}
        nestings = {}
        for node in order:
            below = self.arguments(node)
            sizes[node] = 1 + sum([sizes[argument] for argument in below])
            nestings[node] = 1 + max([nestings[argument] for argument in below], default=0)
            if sizes[node] > LARGEST_SIZE or nestings[node] > DEEPEST_NESTING:
                return False
        return True

    def solution(self, order):
        """Return the unifier; arguments come first in the order."""
        made = {}
        for node in order:
            term = self._terms[node]
            if is_variable(term):
                made[node] = term
            else:
                made[node] = (term[0],) + tuple([made[argument] for argument in self.arguments(node)])
        result = {}
        for variable in sorted(self._nodes):
            value = made[self.root(self._nodes[variable])]
            if value != variable:
                result[variable] = value
        return result
