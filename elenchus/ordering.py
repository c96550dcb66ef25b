"""The ordering of literals and clauses."""


def literal_terms(literal):
    """Return the list of the terms of the literal's multiset."""
    positive, left, right = literal
    return [left, right] if positive else [left, left, right, right]


def compare_literals(ordering, first, second):
    """Return "greater", "less", "equal" or "incomparable"."""
    if first[0] == second[0]:
        # Two multisets compare like those in which everything occurs twice as often.
        return compare_multisets(ordering, list(first[1:]), list(second[1:]), same_terms, compare_terms)
    return compare_multisets(ordering, literal_terms(first), literal_terms(second), same_terms, compare_terms)


def compare_clauses(ordering, first, second):
    """Return "greater", "less", "equal" or "incomparable"."""
    return compare_multisets(ordering, list(first), list(second), same_literals, compare_literals)


def is_maximal(ordering, clause, index, *, strictly=False):
    """Return True if the literal at the index is maximal (strictly maximal) in the clause."""
    literal = clause[index]
    for place, other in enumerate(clause):
        if place != index:
            found = compare_literals(ordering, other, literal)
            if found == "greater" or (strictly and found == "equal"):
                return False
    return True


def compare_terms(ordering, first, second):
    """Compare two terms as the ordering does."""
    return ordering.compare(first, second)


def same_terms(first, second):
    """Return True if the terms are equal."""
    return first == second


def same_literals(first, second):
    """Return True if the literals are equal in the ordering: if their multisets are."""
    positive, left, right = first
    return positive == second[0] and (second[1:] == (left, right) or second[1:] == (right, left))


def compare_multisets(ordering, first, second, same, compare):
    """Compare two lists as multisets; `same` and `compare` are for the things in them."""
    left, right = without_common(first, second, same)
    if not left and not right:
        return "equal"
    if exceeds(ordering, left, right, compare):
        return "greater"
    if exceeds(ordering, right, left, compare):
        return "less"
    return "incomparable"


def without_common(first, second, same):
    """Return both lists without what occurs in both, one occurrence against one."""
    left = []
    right = list(second)
    for thing in first:
        found = [index for index, other in enumerate(right) if same(thing, other)]
        if found:
            del right[found[0]]
        else:
            left.append(thing)
    return left, right


def exceeds(ordering, first, second, compare):
    """Return True if the first list is not empty and has a greater thing for each thing of the second one."""
    for thing in second:
        if not has_greater(ordering, first, thing, compare):
            return False
    return first != []


def has_greater(ordering, things, thing, compare):
    """Return True if one of the things is greater than the given one."""
    for other in things:
        if compare(ordering, other, thing) == "greater":
            return True
    return False
