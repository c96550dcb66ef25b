"""The errors of the program: each kind of failure has a class of its own."""

from elenchus.integers import decimal, is_integer


def worded(value):
    """Return the words of a message for a value: numbers may be of any length, also in a tuple."""
    if is_integer(value):
        return decimal(value)
    if isinstance(value, tuple):
        return "(" + ", ".join([worded(part) for part in value]) + ")"
    return f"{value}"


class ElenchusError(ValueError):
    """The base class of all errors below."""


class TextError(ElenchusError):
    """A text cannot be read; lines and columns count from 1."""

    def __init__(self, line, column, reason):
        super().__init__(f"line {worded(line)}, column {worded(column)}: {reason}")
        self.line = line
        self.column = column
        self.reason = reason


class UnknownSymbol(ElenchusError):
    """A symbol is asked for that is not there."""

    def __init__(self, symbol):
        super().__init__(f"unknown symbol {worded(symbol)}")
        self.symbol = symbol


class KindError(ElenchusError):
    """A symbol is used both as a function and as a predicate."""

    def __init__(self, symbol):
        super().__init__(f"{symbol} is both a function and a predicate")
        self.symbol = symbol


class ArityError(ElenchusError):
    """A symbol is used with two numbers of arguments."""

    def __init__(self, symbol, expected, found):
        super().__init__(f"{symbol} has {worded(expected)} arguments, not {worded(found)}")
        self.symbol = symbol
        self.expected = expected
        self.found = found


class TooLarge(ElenchusError):
    """Something exceeds a limit; the limit has a name."""

    def __init__(self, limit):
        super().__init__(f"too large: {limit}")
        self.limit = limit


class InvalidStep(ElenchusError):
    """A step of a derivation is not correct."""

    def __init__(self, place, reason):
        super().__init__(f"step {worded(place)}: {reason}")
        self.place = place
        self.reason = reason


class InvalidPosition(ElenchusError):
    """A term does not have a position."""

    def __init__(self, position):
        super().__init__(f"no position {worded(position)}")
        self.position = position


class MissingVariable(ElenchusError):
    """A variable has no element in an assignment."""

    def __init__(self, variable):
        super().__init__(f"no element for variable {worded(variable)}")
        self.variable = variable


class InvalidStructure(ElenchusError):
    """The data of a structure do not describe one."""

    def __init__(self, reason):
        super().__init__(f"invalid structure: {reason}")
        self.reason = reason


class UnknownClause(ElenchusError):
    """No clause has this number."""

    def __init__(self, number):
        super().__init__(f"no clause {worded(number)}")
        self.number = number


class UnknownRecord(ElenchusError):
    """No record has this number."""

    def __init__(self, number):
        super().__init__(f"no record {worded(number)}")
        self.number = number


class UnknownEntry(ElenchusError):
    """No entry has this number as its value."""

    def __init__(self, number):
        super().__init__(f"no entry {worded(number)}")
        self.number = number


class DuplicateNumber(ElenchusError):
    """A number is already there."""

    def __init__(self, number):
        super().__init__(f"{worded(number)} is already there")
        self.number = number


class DuplicateName(ElenchusError):
    """A statement with this name is already there."""

    def __init__(self, name):
        super().__init__(f"{name} is already there")
        self.name = name


class SecondGoal(ElenchusError):
    """A goal is added where there already is one."""

    def __init__(self, name):
        super().__init__(f"second goal {name}")
        self.name = name


class InvalidOrdering(ElenchusError):
    """Weights or a precedence do not describe an ordering."""

    def __init__(self, reason):
        super().__init__(f"invalid ordering: {reason}")
        self.reason = reason


class InvalidRatio(ElenchusError):
    """Two numbers do not describe the rounds of a queue."""

    def __init__(self, reason):
        super().__init__(f"invalid ratio: {reason}")
        self.reason = reason


class InvalidSelection(ElenchusError):
    """A selection is none of the known ones."""

    def __init__(self, selection):
        super().__init__(f"invalid selection {worded(selection)}")
        self.selection = selection


class EmptyQueue(ElenchusError):
    """A number is taken from an empty queue."""


class NoLevel(ElenchusError):
    """The first level of a session is closed."""
