"""Completing equations to rewriting rules that decide which terms are equal."""

from elenchus.errors import TooLarge
from elenchus.terms import fits, positions, replace_at, shift, subterm_at, variables_of
from elenchus.unify import apply, match, unify


def rewrite(rules, term):
    """Return the term after one rewriting, or None."""
    for position in positions(term, with_variables=False):
        part = subterm_at(term, position)
        for left, right in rules:
            bound = match(left, part)
            if bound is not None:
                return fitting(replace_at(term, position, apply(bound, right)))
    return None


def fitting(term):
    """Return the term; raise TooLarge if it does not fit."""
    if not fits(term):
        raise TooLarge("term")
    return term


def normalize(rules, term):
    """Return the normal form of the term."""
    result = term
    changed = rewrite(rules, result)
    while changed is not None:
        result = changed
        changed = rewrite(rules, result)
    return result


def critical_pairs(first, second):
    """Return the list of the critical pairs of two rules."""
    by = max(variables_of(list(first)), default=-1) + 1
    left, right = shifted(second, by)
    found = []
    for position in positions(first[0], with_variables=False):
        if position == () and first == second:
            continue
        unifier = unify(subterm_at(first[0], position), left)
        if unifier is not None:
            changed = replace_at(first[0], position, right)
            found.append((apply(unifier, changed), apply(unifier, first[1])))
    return found


def shifted(rule, by):
    """Return the rule with `i + by` in place of each variable `i`."""
    left, right = rule
    return shift(left, by), shift(right, by)


def converges(ordering, rules):
    """Return True if the rules converge."""
    for left, right in rules:
        if ordering.compare(left, right) != "greater":
            return False
    for first in rules:
        for second in rules:
            for left, right in critical_pairs(first, second):
                if not joined(rules, left, right):
                    return False
    return True


def joined(rules, first, second):
    """Return True if both terms have the same normal form."""
    return normalize(rules, first) == normalize(rules, second)


def complete(ordering, equations, steps):
    """Return ("complete", rules), ("unorientable", equation) or ("spent", None)."""
    waiting = list(equations)
    rules = []
    for _ in range(steps):
        if not waiting:
            break
        first, second = waiting.pop(0)
        left = normalize(rules, first)
        right = normalize(rules, second)
        if left == right:
            continue
        compared = ordering.compare(left, right)
        if compared == "incomparable":
            return ("unorientable", (left, right))
        rule = (left, right) if compared == "greater" else (right, left)
        rules, removed = with_rule(rules, rule)
        waiting.extend(removed)
        waiting.extend(pairs_of_new_rule(rules))
    return ("spent", None) if waiting else ("complete", rules)


def with_rule(rules, rule):
    """Return the rules with a new one last, and the list of the older ones that are removed."""
    removed = [older for older in rules if rewrite([rule], older[0]) is not None]
    left = [older for older in rules if rewrite([rule], older[0]) is None]
    kept = [(older[0], normalize(left + [rule], older[1])) for older in left]
    return kept + [rule], removed


def pairs_of_new_rule(rules):
    """Return the critical pairs of the last rule with each of the rules, in their order."""
    new = rules[-1]
    found = []
    for rule in rules[:-1]:
        found.extend(critical_pairs(new, rule))
        found.extend(critical_pairs(rule, new))
    return found + critical_pairs(new, new)
