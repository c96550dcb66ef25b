"""Reading statements, formulas, terms and clauses from texts."""

from elenchus.errors import TextError
from elenchus.lexer import tokens
from elenchus.terms import TRUE, is_variable

RESERVED = ("axiom", "goal", "all", "some", "true", "false")

MOST_OPEN = 40
MOST_ARGUMENTS = 8
GREATEST_HEIGHT = 40


def read_statements(text):
    """Return the list of the statements (role, name, formula) of the text."""
    return FormulaReader(text).parse_statements()


def read_formula(text):
    """Return the formula of a text that is one formula."""
    reader = FormulaReader(text)
    formula, height = reader.parse_formula()
    reader.expect_end()
    reader.check_height(height)
    return formula


def read_term(text):
    """Return the term of a text that is one term, with integers as variables."""
    reader = ClauseReader(text)
    term = reader.parse_term()
    reader.expect_end()
    return term


def read_clause(text):
    """Return the clause of a text that is one clause."""
    return ClauseReader(text).parse_clause()


class TokenReader:
    """What formulas and clauses have in common: tokens, parentheses and terms.

    A class below says by `parse_variable` which variables terms may have.
    """

    def __init__(self, text):
        self._tokens = tokens(text)
        self._at = 0
        self._open_count = 0

    def kind(self):
        """Return the kind of the next token."""
        return self._tokens[self._at][0]

    def word(self):
        """Return the text of the next token; it is empty for the end token."""
        return self._tokens[self._at][1]

    def fail(self, reason):
        """Raise an error with the place of the next token."""
        raise TextError(self._tokens[self._at][2], self._tokens[self._at][3], reason)

    def fail_unexpected(self):
        """Raise the error of a token that cannot stand here."""
        self.fail("unexpected end" if self.kind() == "end" else "unexpected token")

    def take(self):
        """Return the text of the next token and go on behind it."""
        self._at += 1
        return self._tokens[self._at - 1][1]

    def expect(self, sign):
        """Go on behind the sign, which must be the next token."""
        if self.word() != sign:
            self.fail_unexpected()
        self.take()

    def expect_end(self):
        """Make sure that the next token is the end token."""
        if self.kind() != "end":
            self.fail_unexpected()

    def take_opening(self):
        """Go on behind a token that is open from now on, and return its text."""
        if self._open_count == MOST_OPEN:
            self.fail("nesting too deep")
        self._open_count += 1
        return self.take()

    def complete(self, count):
        """Say that the last `count` open tokens are complete."""
        self._open_count -= count

    def take_name(self):
        """Go on behind a name that is not reserved, and return it."""
        if self.kind() != "name" or self.word() in RESERVED:
            self.fail_unexpected()
        return self.take()

    def parse_term(self):
        """Read a term."""
        if self.kind() == "variable":
            return self.parse_variable()
        symbol = self.take_name()
        if self.word() != "(":
            return (symbol,)
        return (symbol,) + self.parse_arguments()

    def parse_arguments(self):
        """Read the arguments of an application with their parentheses."""
        self.take_opening()
        arguments = (self.parse_term(),)
        while self.word() == ",":
            if len(arguments) == MOST_ARGUMENTS:
                self.fail("too many arguments")
            self.take()
            arguments += (self.parse_term(),)
        self.expect(")")
        self.complete(1)
        return arguments


class FormulaReader(TokenReader):
    """Reads formulas; each comes with its height, as a pair (formula, height)."""

    def __init__(self, text):
        super().__init__(text)
        self._bound = []

    def parse_statements(self):
        """Read statements up to the end of the text."""
        statements = []
        names = {}
        goals = 0
        while self.kind() != "end":
            if self.word() not in ("axiom", "goal"):
                self.fail_unexpected()
            if self.word() == "goal":
                if goals == 1:
                    self.fail("second goal")
                goals += 1
            role = self.take()
            if self.word() in names:
                self.fail("name already used")
            name = self.take_name()
            names[name] = True
            statements.append((role, name, self.parse_statement_end()))
        return statements

    def parse_statement_end(self):
        """Read what follows the name of a statement, and return its formula."""
        self.expect(":")
        formula, height = self.parse_formula()
        if self.word() != ".":
            self.fail_unexpected()
        self.check_height(height)
        self.take()
        return formula

    def check_height(self, height):
        """Make sure that a formula with this height is allowed to end at the next token."""
        if height > GREATEST_HEIGHT:
            self.fail("formula too high")

    def parse_formula(self):
        """Read a formula with any operators."""
        left = self.parse_implication()
        if self.word() != "<->":
            return left
        self.take()
        formula = joined("iff", left, self.parse_implication())
        # This must be seen here: the formula may be the scope of a quantifier
        # in an operand of another `<->`, which would take the sign otherwise.
        if self.word() == "<->":
            self.fail_unexpected()
        return formula

    def parse_implication(self):
        """Read a formula up to an operator that is looser than `->`."""
        left = self.parse_disjunction()
        if self.word() != "->":
            return left
        self.take_opening()
        right = self.parse_implication()
        self.complete(1)
        return joined("implies", left, right)

    def parse_disjunction(self):
        """Read a formula up to an operator that is looser than `|`."""
        formula = self.parse_conjunction()
        while self.word() == "|":
            self.take()
            formula = joined("or", formula, self.parse_conjunction())
        return formula

    def parse_conjunction(self):
        """Read a formula up to an operator that is looser than `&`."""
        formula = self.parse_operand()
        while self.word() == "&":
            self.take()
            formula = joined("and", formula, self.parse_operand())
        return formula

    def parse_operand(self):
        """Read a formula without an operator outside of its parentheses and scopes."""
        word = self.word()
        if word == "~":
            return self.parse_negation()
        if word in ("all", "some"):
            return self.parse_quantifier()
        if word == "(":
            self.take_opening()
            formula = self.parse_formula()
            self.expect(")")
            self.complete(1)
            return formula
        if word in ("true", "false"):
            return (self.take(),), 1
        return self.parse_atom()

    def parse_negation(self):
        """Read a formula that begins with `~`."""
        self.take_opening()
        formula, height = self.parse_operand()
        self.complete(1)
        return ("not", formula), height + 1

    def parse_quantifier(self):
        """Read a quantifier, its variables and its scope."""
        quantifier = self.take()
        names = [self.take_introduced()]
        while self.word() == ",":
            self.take()
            names.append(self.take_introduced())
        self.expect(":")
        formula, height = self.parse_formula()
        for name in names[::-1]:
            formula = (quantifier, name, formula)
            self._bound.pop()
        self.complete(len(names))
        return formula, height + len(names)

    def take_introduced(self):
        """Go on behind a variable that a quantifier introduces, and return it."""
        if self.kind() != "variable":
            self.fail_unexpected()
        name = self.take_opening()
        self._bound.append(name)
        return name

    def parse_atom(self):
        """Read an equation, a negative equation or a term alone."""
        left = self.parse_term()
        if self.word() == "=":
            self.take()
            return ("equal", left, self.parse_term()), 1
        if self.word() == "!=":
            self.take()
            return ("not", ("equal", left, self.parse_term())), 2
        if is_variable(left):
            self.fail_unexpected()
        return ("equal", left, TRUE), 1

    def parse_variable(self):
        """Read a variable that a quantifier around it introduces."""
        if self.word() not in self._bound:
            self.fail("unbound variable")
        return self.take()


class ClauseReader(TokenReader):
    """Reads clauses and terms, whose variables are written as X and a number."""

    def parse_clause(self):
        """Read a clause up to the end of the text."""
        if self.word() == "false":
            self.take()
            self.expect_end()
            return ()
        literals = (self.parse_literal(),)
        while self.word() == "|":
            self.take()
            literals += (self.parse_literal(),)
        self.expect_end()
        return literals

    def parse_literal(self):
        """Read a literal."""
        if self.word() == "~":
            self.take()
            return (False, self.parse_atom_side(), TRUE)
        if self.word() == "true":
            return (True, self.parse_atom_side(), TRUE)
        left = self.parse_term()
        if self.word() in ("=", "!="):
            positive = self.take() == "="
            return (positive, left, self.parse_term())
        if is_variable(left):
            self.fail_unexpected()
        return (True, left, TRUE)

    def parse_atom_side(self):
        """Read the left side of an atom: `true`, or a term that is not a variable."""
        if self.word() == "true":
            self.take()
            return TRUE
        if self.kind() == "variable":
            self.fail_unexpected()
        return self.parse_term()

    def parse_variable(self):
        """Read a variable, and return its number."""
        word = self.word()
        digits = word[1:]
        if word[0] != "X" or not digits.isdigit() or (digits[0] == "0" and digits != "0"):
            self.fail_unexpected()
        self.take()
        return int(digits)


def joined(kind, left, right):
    """Return the pair (formula, height) of two such pairs under a connective."""
    return (kind, left[0], right[0]), 1 + max(left[1], right[1])
