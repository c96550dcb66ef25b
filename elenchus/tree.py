"""Term trees: entries are found by the relation of their terms to a given term."""

from elenchus.errors import TooLarge, UnknownEntry
from elenchus.terms import is_variable, shift, variables
from elenchus.unify import match, unify

# What stands in a path for a variable.
STAR = "*"


class TreeNode:
    """A beginning of paths: the nodes one part longer, and the numbers of the entries whose path ends here."""

    def __init__(self):
        self.below = {}
        self.entry_numbers = []


class TermTree:
    """Entries, each of them a term and a value, kept in a tree by the paths of their terms."""

    def __init__(self):
        self._root = TreeNode()
        self._node_count = 1
        self._entries = {}
        self._next = 0

    @property
    def node_count(self):
        """The number of nodes."""
        return self._node_count

    def add(self, term, value):
        """Add an entry."""
        node = self._root
        for part in path_of(term):
            if part not in node.below:
                node.below[part] = TreeNode()
                self._node_count += 1
            node = node.below[part]
        node.entry_numbers.append(self._next)
        self._entries[self._next] = (term, value)
        self._next += 1

    def discard(self, term, value):
        """Remove the first entry with exactly this term and value."""
        path = path_of(term)
        nodes = [self._root]
        for part in path:
            if part not in nodes[-1].below:
                raise UnknownEntry(value)
            nodes.append(nodes[-1].below[part])
        found = [number for number in nodes[-1].entry_numbers if self._entries[number] == (term, value)]
        if not found:
            raise UnknownEntry(value)
        nodes[-1].entry_numbers.remove(found[0])
        del self._entries[found[0]]
        self._remove_unused(path, nodes)

    def _remove_unused(self, path, nodes):
        """Remove the nodes of a path that no entry needs any more, the longest first."""
        for depth in range(len(path), 0, -1):
            if nodes[depth].below or nodes[depth].entry_numbers:
                return
            del nodes[depth - 1].below[path[depth - 1]]
            self._node_count -= 1

    def generalizations(self, term):
        """Return the values of the entries that are generalizations of the term."""
        return [value for entry, value in self._candidates(term, True, False) if match(entry, term) is not None]

    def instances(self, term):
        """Return the values of the entries that are instances of the term."""
        return [value for entry, value in self._candidates(term, False, True) if match(term, entry) is not None]

    def unifiable(self, term):
        """Return the values of the entries that are unifiable with the term."""
        return [value for entry, value in self._candidates(term, True, True) if have_unifier(term, entry)]

    def variants(self, term):
        """Return the values of the entries that are both generalizations and instances of the term."""
        return [value for entry, value in self._candidates(term, False, False)
                if match(entry, term) is not None and match(term, entry) is not None]

    def entries(self):
        """Return the list of all entries in the order in which they were added."""
        return list(self._entries.values())

    def _candidates(self, term, entry_varies, term_varies):
        """Return the entries whose paths fit the term, in the order in which they were added.

        A variable of the entry, and one of the term, stands for any term if it
        varies. That a variable stands for the same term everywhere is not looked at.
        """
        found = []
        waiting = [(self._root, [term])]
        while waiting:
            node, rest = waiting.pop()
            if not rest:
                found.extend(node.entry_numbers)
                continue
            part, others = rest[-1], rest[:-1]
            if is_variable(part) and term_varies:
                waiting.extend([(after, others) for after in nodes_behind_term(node)])
                continue
            if STAR in node.below and (is_variable(part) or entry_varies):
                waiting.append((node.below[STAR], others))
            if not is_variable(part) and symbol_part(part) in node.below:
                waiting.append((node.below[symbol_part(part)], others + list(part[:0:-1])))
        return [self._entries[number] for number in sorted(found)]


def symbol_part(term):
    """Return the part of a path that stands for the symbol of an application."""
    return (term[0], len(term) - 1)


def path_of(term):
    """Return the list of the parts of the path of a term."""
    path = []
    waiting = [term]
    while waiting:
        part = waiting.pop()
        if is_variable(part):
            path.append(STAR)
        else:
            path.append(symbol_part(part))
            waiting.extend(part[:0:-1])
    return path


def nodes_behind_term(node):
    """Return the nodes that are reached from a node by the path of one whole term."""
    found = []
    waiting = [(node, 1)]
    while waiting:
        here, missing = waiting.pop()
        if missing == 0:
            found.append(here)
            continue
        for part, below in here.below.items():
            waiting.append((below, missing - 1 if part == STAR else missing - 1 + part[1]))
    return found


def have_unifier(term, entry):
    """Return True if the terms have a unifier; their variables have nothing to do with each other."""
    apart = shift(entry, max(variables(term), default=-1) + 1)
    try:
        return unify(term, apart) is not None
    except TooLarge:
        # There is a unifier, and only its terms are too large.
        return True
