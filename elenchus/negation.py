"""The negation normal form of formulas."""

from elenchus.errors import TooLarge

LARGEST_FORM = 5000

# What a connective or quantifier becomes under a negation.
DUALS = {"true": "false", "false": "true", "and": "or", "or": "and", "all": "some", "some": "all"}


def negation_normal(formula):
    """Return the negation normal form of the formula."""
    if normal_size(formula) > LARGEST_FORM:
        raise TooLarge("formula")
    return normal_form(formula, False)


def normal_size(formula, *, negated=False):
    """Return the number of tuples of the form of the formula, or of its negation."""
    plain, negative = both_sizes(formula)
    return negative if negated else plain


def both_sizes(formula):
    """Return the sizes of the forms of the formula and of its negation.

    Both are needed for `iff`; computing them one by one would double the work at each level.
    """
    kind = formula[0]
    if kind in ("true", "false"):
        return 1, 1
    if kind == "equal":
        return 1, 2
    if kind in ("all", "some"):
        plain, negative = both_sizes(formula[2])
        return 1 + plain, 1 + negative
    plain, negative = both_sizes(formula[1])
    if kind == "not":
        return negative, plain
    second_plain, second_negative = both_sizes(formula[2])
    if kind == "iff":
        size = 3 + plain + negative + second_plain + second_negative
        return size, size
    if kind == "implies":
        return 1 + negative + second_plain, 1 + plain + second_negative
    return 1 + plain + second_plain, 1 + negative + second_negative


def normal_form(formula, negated):
    """Return the form of the formula, or of its negation."""
    kind = formula[0]
    if kind == "equal":
        return ("not", formula) if negated else formula
    if kind == "not":
        return normal_form(formula[1], not negated)
    if kind == "implies":
        left = normal_form(formula[1], not negated)
        return ("and" if negated else "or", left, normal_form(formula[2], negated))
    if kind == "iff":
        return equivalence_form(formula, negated)
    outer = DUALS[kind] if negated else kind
    if kind in ("true", "false"):
        return (outer,)
    if kind in ("all", "some"):
        return (outer, formula[1], normal_form(formula[2], negated))
    return (outer, normal_form(formula[1], negated), normal_form(formula[2], negated))


def equivalence_form(formula, negated):
    """Return the form of an `iff`, or of its negation."""
    first = normal_form(formula[1], False)
    second = normal_form(formula[2], False)
    not_first = normal_form(formula[1], True)
    not_second = normal_form(formula[2], True)
    if negated:
        return ("and", ("or", first, second), ("or", not_first, not_second))
    return ("and", ("or", not_first, second), ("or", not_second, first))
