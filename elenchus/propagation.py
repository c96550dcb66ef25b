"""Unit propagation: what must be true so that propositional clauses are."""


class Propagation:
    """Propositional clauses, and integers that are true; what follows from them becomes true as well.

    The integers become true at levels: level 0 has what follows from the
    clauses alone, each further level begins with a decision. A clause of two
    or more integers watches its first two: as long as neither of them is
    false, nothing follows from it.
    """

    def __init__(self):
        self._clauses = []
        self._watching = {}
        # From each integer that is true to the number of the clause that made it true, or None.
        self._reasons = {}
        self._levels = {}
        self._trail = []
        self._visited = 0
        self._marks = []
        self._failed = False

    def add_clause(self, clause):
        """Add a clause at level 0."""
        integers = without_repetition(clause)
        if is_opposed(integers) or any([self.is_true(integer) for integer in integers]):
            return
        left = [integer for integer in integers if not self.is_true(-integer)]
        if len(left) > 1:
            self._keep_clause(left)
        elif left:
            self.make_true(left[0], None)
            if self.propagate() is not None:
                self._failed = True
        else:
            self._failed = True

    def learn_clause(self, clause):
        """Add a clause whose first integer follows from it now, and which has its latest other integer second."""
        number = None
        if len(clause) > 1:
            number = self._keep_clause(list(clause))
        self.make_true(clause[0], number)

    def _keep_clause(self, integers):
        self._clauses.append(integers)
        number = len(self._clauses) - 1
        for integer in integers[:2]:
            self._watching.setdefault(integer, []).append(number)
        return number

    def has_failed(self):
        """Return True if the clauses alone are in conflict."""
        return self._failed

    def is_true(self, integer):
        """Return True if the integer is true."""
        return integer in self._reasons

    def true_integers(self):
        """Return the list of the integers that are true, in the order in which they became true."""
        return list(self._trail)

    def clause(self, number):
        """Return the list of the integers of a clause."""
        return list(self._clauses[number])

    def reason(self, integer):
        """Return the number of the clause that made the integer true."""
        return self._reasons[integer]

    def level_of(self, integer):
        """Return the level of the integer, or of its negation."""
        return self._levels[abs(integer)]

    def current_level(self):
        """Return how many levels there are beside level 0."""
        return len(self._marks)

    def make_true(self, integer, reason):
        """Make an integer true that is neither true nor false."""
        self._reasons[integer] = reason
        self._levels[abs(integer)] = len(self._marks)
        self._trail.append(integer)

    def decide(self, integer):
        """Begin a level with an integer."""
        self._marks.append(len(self._trail))
        self.make_true(integer, None)

    def back_to(self, level):
        """Forget all that became true at higher levels."""
        if level < len(self._marks):
            mark = self._marks[level]
            for integer in self._trail[mark:]:
                del self._reasons[integer]
                del self._levels[abs(integer)]
            del self._trail[mark:]
            del self._marks[level:]
            self._visited = mark

    def propagate(self):
        """Make true what follows; return the number of a clause that is false, or None."""
        conflict = None
        while conflict is None and self._visited < len(self._trail):
            integer = self._trail[self._visited]
            self._visited += 1
            conflict = self._visit(-integer)
        return conflict

    def _visit(self, false):
        """Look at the clauses that watch an integer that is false now; return the number of a false one, or None."""
        numbers = self._watching.pop(false, [])
        kept = []
        conflict = None
        for number in numbers:
            if conflict is None and self._watches_another(number, false):
                continue
            kept.append(number)
            if conflict is None:
                conflict = self._settle(number)
        self._watching[false] = kept
        return conflict

    def _watches_another(self, number, false):
        """Let the clause watch another integer, if that is needed and possible, and return True if it does."""
        clause = self._clauses[number]
        if clause[0] == false:
            clause[0] = clause[1]
            clause[1] = false
        if clause[0] in self._reasons:
            return False
        for index in range(2, len(clause)):
            if -clause[index] not in self._reasons:
                clause[1] = clause[index]
                clause[index] = false
                self._watching.setdefault(clause[1], []).append(number)
                return True
        return False

    def _settle(self, number):
        """Make the first integer of a clause true whose others are false; return the number if it is false, too."""
        first = self._clauses[number][0]
        if -first in self._reasons:
            return number
        if first not in self._reasons:
            self.make_true(first, number)
        return None

    def refutes(self, integers):
        """Return True if there is a conflict once all of the integers are true, or if two of them are opposed."""
        if self._failed:
            return True
        conflict = False
        self._marks.append(len(self._trail))
        for integer in without_repetition(integers):
            if self.is_true(-integer):
                conflict = True
            elif not self.is_true(integer):
                self.make_true(integer, None)
        if not conflict:
            conflict = self.propagate() is not None
        self.back_to(0)
        return conflict


def without_repetition(integers):
    """Return the list of the integers, each at its first place only."""
    found = {integer: True for integer in integers}
    return list(found)


def is_opposed(integers):
    """Return True if the integers contain an integer and its negation."""
    found = {integer: True for integer in integers}
    return any([-integer in found for integer in found])
