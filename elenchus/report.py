"""The written form of derivations, structures and answers."""

from elenchus.errors import TextError
from elenchus.integers import decimal, from_decimal
from elenchus.reader import read_clause, read_term
from elenchus.show import show_clause, show_term
from elenchus.steps import INDEXED, RULES
from elenchus.structures import Structure

DIGITS = "0123456789"
SMALL_LETTERS = "abcdefghijklmnopqrstuvwxyz"
SYMBOL_CHARACTERS = "abcdefghijklmnopqrstuvwxyzABCDEFGHIJKLMNOPQRSTUVWXYZ0123456789_"
LONGEST_SYMBOL = 20

TRUTH = {"true": True, "false": False}


def show_steps(steps):
    """Return the list of the lines of a derivation."""
    return [show_step(number, step) for number, step in enumerate(steps)]


def show_step(number, step):
    """Return the line of a step."""
    rule, premises, data, conclusion = step
    if rule == "instance":
        shown = [f"{show_term(variable)}={show_term(term)}" for variable, term in data]
    elif rule == "replace":
        shown = [decimal(part) for part in data[:3]] + [show_position(data[3])]
    else:
        shown = [decimal(part) for part in data]
    front = " ".join([decimal(number), rule] + [decimal(premise) for premise in premises] + shown)
    return f"{front}: {show_clause(conclusion)}"


def show_position(position):
    """Return the written form of a position."""
    return ".".join([decimal(index) for index in position]) if position else "-"


def read_steps(lines):
    """Return the list of the steps of the lines of a derivation."""
    steps = []
    for number, line in enumerate(lines):
        step = read_step(number, line)
        if step is None:
            raise TextError(number + 1, 1, "invalid step")
        steps.append(step)
    return steps


def read_step(number, line):
    """Return the step of a line, or None if the line is not the written form of a step with this number."""
    front, _, back = line.partition(": ")
    words = front.split(" ")
    if len(words) < 2 or words[1] not in RULES:
        return None
    rule = words[1]
    count = RULES[rule]
    premises = read_numbers(words[2:2 + count])
    try:
        data = read_data(rule, words[2 + count:])
        conclusion = read_clause(back)
    except TextError:
        return None
    if premises is None or len(premises) < count or data is None:
        return None
    step = (rule, premises, data, conclusion)
    # What is written in another way than it would be shown is no written form.
    return step if show_step(number, step) == line else None


def read_data(rule, words):
    """Return the data of a rule, or None if the words are none."""
    if rule == "instance":
        return read_bindings(words)
    if rule == "input":
        return read_numbers(words) if len(words) == 1 else None
    if rule != "replace":
        return read_numbers(words) if len(words) == len(INDEXED[rule]) else None
    if len(words) != 4:
        return None
    numbers = read_numbers(words[:3])
    position = () if words[3] == "-" else read_numbers(words[3].split("."))
    return None if numbers is None or position is None else numbers + (position,)


def read_bindings(words):
    """Return the tuple of the pairs of a variable and a term, or None if a word is no such pair."""
    pairs = ()
    for word in words:
        name, _, text = word.partition("=")
        number = read_number(name[1:])
        if number is None:
            return None
        pairs += ((number, read_term(text)),)
    return pairs


def read_numbers(words):
    """Return the tuple of the numbers that the words are, or None if one of them is none."""
    numbers = tuple([read_number(word) for word in words])
    return None if None in numbers else numbers


def read_number(word):
    """Return the number that the word is, or None; zeros in front are let through."""
    if not word or [letter for letter in word if letter not in DIGITS]:
        return None
    return from_decimal(word)


def show_structure(structure):
    """Return the list of the lines of a structure."""
    lines = [f"size {decimal(structure.size)}"]
    for tables in (structure.functions(), structure.predicates()):
        for symbol in sorted(tables):
            for row in sorted(tables[symbol]):
                lines.append(show_entry(symbol, row, tables[symbol][row]))
    return lines


def show_entry(symbol, row, value):
    """Return the line of an entry of a table."""
    inner = ",".join([decimal(element) for element in row])
    head = f"{symbol}({inner})" if row else symbol
    if isinstance(value, bool):
        return f"{head} = true" if value else f"{head} = false"
    return f"{head} = {decimal(value)}"


def read_structure(lines):
    """Return the structure of the lines."""
    size = read_size(lines[0]) if lines else None
    if size is None:
        raise TextError(1, 1, "invalid structure")
    functions = {}
    predicates = {}
    last = (False, "", ())
    for index in range(1, len(lines)):
        entry = read_entry(lines[index], size)
        if entry is None or not last < entry[:3]:
            raise TextError(index + 1, 1, "invalid structure")
        is_predicate, symbol, row, value = entry
        tables = predicates if is_predicate else functions
        tables.setdefault(symbol, {})[row] = value
        last = entry[:3]
    return Structure(size, functions, predicates)


def read_size(line):
    """Return the size that the first line says, or None."""
    size = read_number(line[5:])
    return size if size is not None and size > 0 and line == f"size {decimal(size)}" else None


def read_entry(line, size):
    """Return (is_predicate, symbol, row, value) of a line for an entry, or None.

    These tuples are in ascending order for the lines of a structure.
    """
    head, _, tail = line.partition(" = ")
    symbol, opening, inner = head.partition("(")
    row = read_numbers(inner[:-1].split(",")) if opening else ()
    value = TRUTH[tail] if tail in TRUTH else read_number(tail)
    if row is None or value is None or not is_symbol(symbol):
        return None
    is_predicate = tail in TRUTH
    bounded = row if is_predicate else row + (value,)
    if [element for element in bounded if element >= size] or show_entry(symbol, row, value) != line:
        return None
    return (is_predicate, symbol, row, value)


def is_symbol(word):
    """Return True if the word may be a symbol."""
    if not word or len(word) > LONGEST_SYMBOL or word[0] not in SMALL_LETTERS:
        return False
    return all([letter in SYMBOL_CHARACTERS for letter in word])


def report(answer, names):
    """Return the list of the lines of an answer of a session."""
    if answer[0] == "limit":
        return [f"limit: {answer[1]}"]
    if answer[0] == "saturated":
        return ["saturated"] + [show_clause(clause) for clause in answer[1]]
    lines = ["refuted"]
    for line, step in zip(show_steps(answer[2]), answer[2]):
        lines.append(f"{line} [{names[step[2][0]]}]" if step[0] == "input" else line)
    return lines
