"""The rules of derivations: the form of their data, their conditions and their conclusions."""

from elenchus.clauses import is_equation, without_literal
from elenchus.integers import is_integer
from elenchus.places import replace_in
from elenchus.terms import TRUE, is_variable, replace_variables, subterm_at

# The numbers of premises of the rules.
RULES = {"input": 0, "instance": 1, "swap": 1, "merge": 1, "drop": 1, "resolve": 2, "replace": 2, "factor": 1}

# For the rules whose data begin with indexes of literals: the premise of which each index is one.
INDEXED = {"swap": (0,), "merge": (0, 0), "drop": (0,), "resolve": (0, 1), "replace": (0, 1), "factor": (0, 0)}


def is_term(value):
    """Return True if the value is an integer of at least 0, or a tuple of a string and terms."""
    waiting = [value]
    while waiting:
        part = waiting.pop()
        if isinstance(part, tuple):
            if not part or not isinstance(part[0], str):
                return False
            waiting.extend(part[1:])
        elif not is_integer(part) or part < 0:
            return False
    return True


def is_clause(value):
    """Return True if the value is a tuple of literals."""
    return isinstance(value, tuple) and all([is_literal(part) for part in value])


def is_literal(value):
    """Return True if the value is a tuple of True or False and two terms."""
    return (isinstance(value, tuple) and len(value) == 3 and isinstance(value[0], bool)
            and is_term(value[1]) and is_term(value[2]))


def has_step_form(value):
    """Return True if the value is a rule, premises, data and a conclusion, which is a clause."""
    return (isinstance(value, tuple) and len(value) == 4 and isinstance(value[0], str)
            and isinstance(value[1], tuple) and isinstance(value[2], tuple) and is_clause(value[3]))


def is_index(value, rows):
    """Return True if the value is an index of the rows."""
    return is_integer(value) and 0 <= value < len(rows)


def has_data_form(inputs, rule, clauses, data):
    """Return True if the data have the form that the rule states for its premises."""
    if rule == "input":
        return len(data) == 1 and is_index(data[0], inputs)
    if rule == "instance":
        return are_bindings(data)
    owners = INDEXED[rule]
    if len(data) != len(owners) + (2 if rule == "replace" else 0):
        return False
    for index, owner in zip(data, owners):
        if not is_index(index, clauses[owner]):
            return False
    return rule != "replace" or is_place(clauses[1][data[1]], data[2], data[3])


def are_bindings(data):
    """Return True if the data are pairs of different variables and terms."""
    known = {}
    for pair in data:
        if not isinstance(pair, tuple) or len(pair) != 2 or not is_term(pair[1]):
            return False
        if not is_integer(pair[0]) or pair[0] < 0 or pair[0] in known:
            return False
        known[pair[0]] = True
    return True


def is_place(literal, side, position):
    """Return True if the literal has this side, and the side this position."""
    if not is_integer(side) or side not in (0, 1) or not isinstance(position, tuple):
        return False
    part = literal[1 + side]
    for index in position:
        if is_variable(part) or not is_integer(index) or not 1 <= index < len(part):
            return False
        part = part[index]
    return True


def is_plain(term, barred):
    """Return True if neither TRUE nor one of the barred symbols occurs in the term."""
    waiting = [term]
    while waiting:
        part = waiting.pop()
        if not is_variable(part):
            if part == TRUE or part[0] in barred:
                return False
            waiting.extend(part[1:])
    return True


def condition_holds(rule, clauses, data, barred):
    """Return True if the condition of the rule holds; the barred symbols are in no plain term."""
    if rule == "input":
        return True
    if rule == "instance":
        return all([is_plain(term, barred) for _, term in data])
    literals = [clauses[owner][index] for index, owner in zip(data, INDEXED[rule])]
    if rule == "swap":
        return is_equation(literals[0])
    if rule == "merge":
        return data[0] < data[1] and literals[0] == literals[1]
    if rule == "drop":
        return not literals[0][0] and literals[0][1] == literals[0][2]
    if rule == "resolve":
        return literals[0][0] and not literals[1][0] and literals[0][1:] == literals[1][1:]
    if rule == "replace":
        return literals[0][0] and subterm_at(literals[1][1 + data[2]], data[3]) == literals[0][1]
    return data[0] != data[1] and literals[0][0] and literals[1][0] and literals[0][1] == literals[1][1]


def conclusion_of(inputs, rule, clauses, data):
    """Return the conclusion of a rule whose condition holds."""
    if rule == "input":
        return inputs[data[0]]
    first = clauses[0]
    if rule == "instance":
        new = {variable: term for variable, term in data}
        return tuple([(positive, replace_variables(left, new), replace_variables(right, new))
                      for positive, left, right in first])
    positive, left, right = first[data[0]]
    if rule == "swap":
        return first[:data[0]] + ((positive, right, left),) + first[data[0] + 1:]
    if rule == "merge":
        return without_literal(first, data[1])
    if rule == "drop":
        return without_literal(first, data[0])
    if rule == "resolve":
        return without_literal(first, data[0]) + without_literal(clauses[1], data[1])
    if rule == "replace":
        return without_literal(first, data[0]) + replace_in(clauses[1], data[1:], right)
    return without_literal(first, data[0]) + ((False, right, first[data[1]][2]),)
