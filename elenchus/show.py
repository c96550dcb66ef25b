"""The written form of terms, literals, clauses and formulas."""

from elenchus.integers import decimal
from elenchus.terms import TRUE, is_variable

SIGNS = {"and": "&", "or": "|", "implies": "->", "iff": "<->"}


def show_term(term):
    """Return the written form of the term."""
    if isinstance(term, str):
        return term
    if is_variable(term):
        return f"X{decimal(term)}"
    if len(term) == 1:
        return term[0]
    inner = ",".join([show_term(argument) for argument in term[1:]])
    return f"{term[0]}({inner})"


def show_literal(literal):
    """Return the written form of the literal."""
    positive, left, right = literal
    if right == TRUE:
        return show_term(left) if positive else f"~{show_term(left)}"
    sign = "=" if positive else "!="
    return f"{show_term(left)} {sign} {show_term(right)}"


def show_clause(clause):
    """Return the written form of the clause."""
    if not clause:
        return "false"
    return " | ".join([show_literal(literal) for literal in clause])


def show_formula(formula):
    """Return the written form of the formula."""
    kind = formula[0]
    if kind == "true" or kind == "false":
        return kind
    if kind == "equal":
        return show_literal((True, formula[1], formula[2]))
    if kind == "not":
        return show_negation(formula[1])
    if kind == "all" or kind == "some":
        return f"({kind} {formula[1]}: {show_formula(formula[2])})"
    return f"({show_formula(formula[1])} {SIGNS[kind]} {show_formula(formula[2])})"


def show_negation(formula):
    """Return the written form of the negation of the formula."""
    if formula[0] == "equal":
        return show_literal((False, formula[1], formula[2]))
    return f"~{show_formula(formula)}"
