"""Derivations: small steps that show that clauses follow from a list of input clauses."""

from elenchus.clauses import is_equation
from elenchus.errors import InvalidStep
from elenchus.integers import is_integer
from elenchus.steps import RULES, conclusion_of, condition_holds, has_data_form, has_step_form
from elenchus.terms import TRUE


def predicates(clauses):
    """Return the list of the predicates of the clauses in ascending order."""
    atoms = [literal[1] for clause in clauses for literal in clause if not is_equation(literal)]
    return sorted({atom[0] for atom in atoms if atom != TRUE})


def step_error(inputs, steps, number):
    """Return None if the step with this number is correct, otherwise the reason."""
    return error_of_step(inputs, steps, number, barred_symbols(inputs))


def check(inputs, steps):
    """Return True if all steps are correct, otherwise raise InvalidStep for the first that is not."""
    barred = barred_symbols(inputs)
    for number in range(len(steps)):
        reason = error_of_step(inputs, steps, number, barred)
        if reason is not None:
            raise InvalidStep(number, reason)
    return True


def is_refutation(inputs, steps):
    """Return True if all steps are correct and the last conclusion is the empty clause."""
    if not steps:
        return False
    try:
        check(inputs, steps)
    except InvalidStep:
        return False
    return steps[-1][3] == ()


def conclude(inputs, steps, rule, premises, data):
    """Return the conclusion of a further step behind correct ones."""
    reason = error_before_conclusion(inputs, steps, len(steps), (rule, premises, data), barred_symbols(inputs))
    if reason is not None:
        raise InvalidStep(len(steps), reason)
    return conclusion_of(inputs, rule, [steps[number][3] for number in premises], data)


def needed(steps):
    """Return the list of the numbers of the steps that the last step needs in ascending order."""
    marked = {len(steps) - 1: True} if steps else {}
    for number in range(len(steps) - 1, -1, -1):
        if number in marked:
            for premise in steps[number][1]:
                marked[premise] = True
    return sorted(marked)


def prune(steps):
    """Return the list of the steps that the last step needs, with their premises numbered anew."""
    numbers = needed(steps)
    new = {number: place for place, number in enumerate(numbers)}
    pruned = []
    for number in numbers:
        rule, premises, data, conclusion = steps[number]
        pruned.append((rule, tuple([new[premise] for premise in premises]), data, conclusion))
    return pruned


def used_inputs(steps):
    """Return the list of the numbers of the input clauses that the last step needs in ascending order."""
    used = {steps[number][2][0]: True for number in needed(steps) if steps[number][0] == "input"}
    return sorted(used)


def barred_symbols(inputs):
    """Return a dict from the predicates of the inputs, which are in no plain term, to True."""
    return {symbol: True for symbol in predicates(inputs)}


def error_of_step(inputs, steps, number, barred):
    """Return None if the step is correct, otherwise the reason."""
    step = steps[number]
    if not has_step_form(step):
        return "form"
    rule, premises, data, conclusion = step
    reason = error_before_conclusion(inputs, steps, number, (rule, premises, data), barred)
    if reason is not None:
        return reason
    clauses = [steps[premise][3] for premise in premises]
    return None if conclusion == conclusion_of(inputs, rule, clauses, data) else "conclusion"


def error_before_conclusion(inputs, steps, number, parts, barred):
    """Return None if a rule, premises and data give a conclusion as a step with this number, otherwise the reason."""
    rule, premises, data = parts
    if rule not in RULES:
        return "rule"
    if len(premises) != RULES[rule]:
        return "premise"
    for premise in premises:
        if not is_integer(premise) or not 0 <= premise < number:
            return "premise"
    clauses = [steps[premise][3] for premise in premises]
    if not has_data_form(inputs, rule, clauses, data):
        return "data"
    return None if condition_holds(rule, clauses, data, barred) else "condition"
