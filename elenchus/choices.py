"""Choosing literals of one clause for the literals of another one.

A literal has several ways: for each way a target, the index of the literal that
is chosen, and bindings, a dict from variables to terms. Two ways agree if they
have different targets and their bindings do not contradict each other. Wanted is
one way for each literal, such that all of them agree.

A set of ways is an integer, in which bit k stands for way k.
"""

from elenchus.show import show_term


def agreeing_bindings(rows, one_to_one):
    """Return the bindings of a choice of agreeing ways, all in one dict, or None.

    There is a row for each literal, a list of pairs of a target and bindings. With
    `one_to_one` different variables have to be bound to different terms.
    """
    search = ChoiceSearch(rows, one_to_one)
    chosen = search.agreeing_ways(list(range(len(rows))), search.all_ways())
    if chosen is None:
        return None
    merged = {}
    for way in chosen:
        merged.update(search.bindings(way))
    return merged


class ChoiceSearch:
    """The ways of all literals, and which of them exclude each other."""

    def __init__(self, rows, one_to_one):
        self._ways = [(literal, target, bound) for literal, row in enumerate(rows) for target, bound in row]
        self._of_literal = {}
        self._of_target = {}
        for way, (literal, target, _) in enumerate(self._ways):
            add_bit(self._of_literal, literal, way)
            add_bit(self._of_target, target, way)
        clashes = clashing_ways([bound for _, _, bound in self._ways], one_to_one)
        # Ways that exclude each other by their bindings alone are told apart from all that do.
        self._clashing = []
        self._excluded = []
        for (literal, target, _), clash in zip(self._ways, clashes):
            same = self._of_literal[literal] | self._of_target[target]
            self._clashing.append(clash & ~same)
            self._excluded.append(clash | same)
        # Sets of ways that are known to have no solution; searching them again could take for ever.
        self._failed = {}

    def all_ways(self):
        """Return the set of all ways."""
        return (1 << len(self._ways)) - 1

    def bindings(self, way):
        """Return the bindings of a way."""
        return self._ways[way][2]

    def agreeing_ways(self, literals, ways):
        """Return a list of agreeing ways of the set, one for each of the literals, or None."""
        ways = self._supported(literals, ways)
        matching = None if ways in self._failed else self._matching(literals, ways)
        if matching is None:
            return None
        open_literals = [literal for literal in literals if self._has_clash(literal, ways)]
        if not open_literals:
            return list(matching.values())
        _, literal = min([(len(bits(self._left(one, ways))), one) for one in open_literals])
        others = [other for other in literals if other != literal]
        for way in bits(self._left(literal, ways)):
            found = self.agreeing_ways(others, ways & ~self._excluded[way])
            if found is not None:
                return found + [way]
        self._failed[ways] = True
        return None

    def _left(self, literal, ways):
        """Return the ways of the set that belong to the literal."""
        return self._of_literal.get(literal, 0) & ways

    def _supported(self, literals, ways):
        """Return the set without ways that leave some literal without a way."""
        rows = [self._left(literal, ways) for literal in literals]
        removed = ways
        while removed:
            removed = 0
            for way in bits(ways):
                if not meets_all(rows, ways & ~self._excluded[way] | (1 << way)):
                    removed |= 1 << way
            ways &= ~removed
        return ways

    def _has_clash(self, literal, ways):
        """Return True if the bindings of a way of the literal exclude another way of the set."""
        for way in bits(self._left(literal, ways)):
            if self._clashing[way] & ways:
                return True
        return False

    def _matching(self, literals, ways):
        """Return a dict from different targets to ways, one for each literal, or None; bindings are not looked at."""
        matching = {}
        for literal in literals:
            if not self._place(literal, ways, matching, {}):
                return None
        return matching

    def _place(self, literal, ways, matching, tried):
        """Find a target for one more literal, for which others may get other targets; return False if there is none."""
        for way in bits(self._left(literal, ways)):
            target = self._ways[way][1]
            if target not in tried:
                tried[target] = True
                if target not in matching or self._place(self._ways[matching[target]][0], ways, matching, tried):
                    matching[target] = way
                    return True
        return False


def clashing_ways(all_bindings, one_to_one):
    """Return for each way the set of the ways whose bindings contradict its own."""
    binding = {}
    binding_to = {}
    reaching = {}
    named = []
    for way, bound in enumerate(all_bindings):
        # Terms may be nested too deeply to be keys of a dict.
        pairs = [(variable, show_term(bound[variable])) for variable in bound]
        named.append(pairs)
        for variable, name in pairs:
            add_bit(binding, variable, way)
            add_bit(binding_to, (variable, name), way)
            add_bit(reaching, name, way)
    result = []
    for pairs in named:
        clash = 0
        for variable, name in pairs:
            rivals = binding[variable] | reaching[name] if one_to_one else binding[variable]
            clash |= rivals & ~binding_to[(variable, name)]
        result.append(clash)
    return result


def meets_all(sets, ways):
    """Return True if the set of ways has a way of each of the sets."""
    for other in sets:
        if not other & ways:
            return False
    return True


def add_bit(sets, key, way):
    """Add the way to the set of the key."""
    sets[key] = sets.get(key, 0) | (1 << way)


def bits(ways):
    """Return the list of the ways of a set in ascending order."""
    found = []
    while ways:
        lowest = ways & -ways
        found.append(lowest.bit_length() - 1)
        ways ^= lowest
    return found
