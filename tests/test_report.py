"""Points 124 to 127: the written form of derivations, structures and answers."""

import itertools
import random
import unittest

from elenchus.derivation import check
from elenchus.errors import TextError
from elenchus.reader import read_clause
from elenchus.report import read_steps, read_structure, report, show_steps, show_structure
from elenchus.session import Session
from elenchus.show import show_clause
from elenchus.structures import Structure

TRUE = ("true",)
A = ("a",)

# Numbers with more digits than Python itself writes and reads, or with about as many.
LONG_NUMBERS = [10 ** 3999, 10 ** 4000, 10 ** 4100, 10 ** 4299, 10 ** 4300 - 1, 10 ** 4300, 10 ** 5000,
                12 * 10 ** 9000 + 345]
LONG = "1" + "0" * 4300
SPOILED_NUMBERS = ["0" + LONG, "-" + LONG, "+" + LONG, LONG + "x", "1_" + LONG, LONG + ".0", LONG + "\u0661",
                   "x" + LONG, LONG[:2000] + "e" + LONG, "0" * 4301]


def error_of(call, lines):
    """Return the line, the column and the reason of the error, or None."""
    try:
        call(lines)
    except TextError as error:
        return (error.line, error.column, error.reason)
    return None


class WrittenSteps(unittest.TestCase):
    """Point 124."""

    def test_the_example(self):
        steps = [("input", (), (0,), ((True, ("f", 0), ("a",)),)),
                 ("instance", (0,), ((0, ("g", 1)),), ((True, ("f", ("g", 1)), ("a",)),))]
        self.assertEqual(show_steps(steps), ["0 input 0: f(X0) = a", "1 instance 0 X0=g(X1): f(g(X1)) = a"])
        self.assertEqual(read_steps(show_steps(steps)), steps)
        self.assertRaises(TextError, read_steps, ["1 input 0: p"])

    def test_each_rule(self):
        lines = show_steps(STEPS)
        self.assertEqual(lines, LINES)
        self.assertEqual(read_steps(lines), STEPS)
        self.assertEqual(read_steps(LINES), STEPS)

    def test_no_steps(self):
        self.assertEqual((show_steps([]), read_steps([])), ([], []))

    def test_twelve_steps_and_more(self):
        steps = [("input", (), (number,), read_clause(f"p{number}")) for number in range(13)]
        self.assertEqual(show_steps(steps)[12], "12 input 12: p12")
        self.assertEqual(read_steps(show_steps(steps)), steps)

    def test_a_derivation_of_a_session(self):
        session = Session()
        session.add("axiom assoc: all X, Y, Z: m(m(X, Y), Z) = m(X, m(Y, Z)). axiom left: all X: m(e, X) = X. "
                    "axiom inverse: all X: m(i(X), X) = e. goal g: all X: m(X, i(X)) = e.")
        _, inputs, steps = session.attempt()
        self.assertEqual(read_steps(show_steps(steps)), steps)
        self.assertTrue(check(inputs, read_steps(show_steps(steps))))
        self.assertGreater(len(steps), 15)

    def test_numbers_of_many_digits(self):
        n = 10 ** 4300
        steps = [("input", (), (n,), ()), ("instance", (n,), ((n, 0), (0, ("f", n))), ()), ("swap", (n,), (n,), ()),
                 ("merge", (n,), (0, n), ()), ("resolve", (n, 2), (n, 3), ()),
                 ("replace", (n, 1), (0, n, 1, (n, 2)), ()), ("replace", (1, n), (n, 1, n, ()), ((True, n, A),))]
        lines = ["0 input N: false", "1 instance N XN=X0 X0=f(XN): false", "2 swap N N: false", "3 merge N 0 N: false",
                 "4 resolve N 2 N 3: false", "5 replace N 1 0 N 1 N.2: false", "6 replace 1 N N 1 N -: XN = a"]
        self.assertTrue(show_steps(steps) == [line.replace("N", LONG) for line in lines])

    def test_random_steps(self):
        choice = random.Random(124)
        for _ in range(50):
            steps = [random_step(choice) for _ in range(choice.randint(0, 14))]
            self.assertEqual(read_steps(show_steps(steps)), steps)


STEPS = [
    ("input", (), (12,), ()),
    ("instance", (0,), (), read_clause("p(X0) | ~q")),
    ("instance", (1,), ((0, ("f", 1, A)), (13, 2)), read_clause("true | ~true")),
    ("swap", (2,), (0,), read_clause("a != X0")),
    ("merge", (3,), (0, 10), read_clause("a = b | c")),
    ("drop", (4,), (1,), ()),
    ("resolve", (5, 3), (0, 2), read_clause("~p(f(X12))")),
    ("replace", (6, 0), (1, 2, 0, ()), read_clause("X0 = X1")),
    ("replace", (7, 7), (0, 1, 1, (2, 10, 1)), read_clause("p")),
    ("factor", (8,), (3, 1), read_clause("q(a) | ~r(X0, X1)"))]

LINES = [
    "0 input 12: false",
    "1 instance 0: p(X0) | ~q",
    "2 instance 1 X0=f(X1,a) X13=X2: true | ~true",
    "3 swap 2 0: a != X0",
    "4 merge 3 0 10: a = b | c",
    "5 drop 4 1: false",
    "6 resolve 5 3 0 2: ~p(f(X12))",
    "7 replace 6 0 1 2 0 -: X0 = X1",
    "8 replace 7 7 0 1 1 2.10.1: p",
    "9 factor 8 3 1: q(a) | ~r(X0,X1)"]


def random_step(choice):
    """Return a step that need not be correct."""
    rule, premises, indexes = choice.choice([("input", 0, 1), ("instance", 1, 0), ("swap", 1, 1), ("merge", 1, 2),
                                             ("drop", 1, 1),
                                             ("resolve", 2, 2), ("replace", 2, 3), ("factor", 1, 2)])
    data = tuple(choice.randrange(15) for _ in range(indexes))
    terms = [A, 0, 7, ("f", 1), ("g", ("f", A), 12)]
    if rule == "instance":
        data = tuple((choice.randrange(15), choice.choice(terms)) for _ in range(choice.randint(0, 3)))
    if rule == "replace":
        data += (tuple(choice.randint(1, 12) for _ in range(choice.randint(0, 3))),)
    literals = [(True, choice.choice(terms), choice.choice(terms)), (False, ("p", choice.choice(terms)), TRUE)]
    return rule, tuple(choice.randrange(20) for _ in range(premises)), data, tuple(choice.choices(literals,
                                                                                                  k=choice.randint(0,
                                                                                                                   3)))


class ReadSteps(unittest.TestCase):
    """Point 125."""

    def check_line(self, line, number=1):
        """Make sure that the line is refused as the one with this number."""
        lines = LINES[:number]
        for rest in ([], LINES[number + 1:], ["no step"]):
            self.assertEqual(error_of(read_steps, lines + [line] + rest), (number + 1, 1, "invalid step"), line)

    def test_numbers(self):
        for line in ("2 swap 0 0: p", "0 swap 0 0: p", "01 swap 0 0: p", "+1 swap 0 0: p", "-1 swap 0 0: p",
                     "swap 0 0: p",
                     "x swap 0 0: p", "1.0 swap 0 0: p", " swap 0 0: p", "1 swap 00 0: p", "1 swap 0 00: p",
                     "1 swap +0 0: p",
                     "1 swap 0 +0: p", "1 swap 0 -1: p", "1 swap -1 0: p", "1 swap 0 01: p", "1 swap 0 1_0: p",
                     "1 swap 0 x: p",
                     "1 swap 0 X0: p", "1 swap 0 (0): p", "1 swap 0 1.0: p", "1 swap 0 \u0661: p",
                     "1 swap 0 \u00b2: p"):
            self.check_line(line)
        self.check_line("1 input 0: p", 0)
        self.check_line("00 input 0: p", 0)

    def test_numbers_of_many_digits(self):
        for number in LONG_NUMBERS:
            steps = [("input", (), (number,), ()), ("merge", (number,), (0, number), ()),
                     ("instance", (number,), ((3, A),), ()), ("resolve", (0, number), (number, 1), ()),
                     ("replace", (number, 1), (0, number, 1, (number, 2)), ()), ("factor", (1,), (number, number), ())]
            self.assertTrue(read_steps(show_steps(steps)) == steps)
        self.assertTrue(read_steps(["0 swap 7 " + "9" * 5000 + ": p"])
                        == [("swap", (7,), (10 ** 5000 - 1,), read_clause("p"))])

    def test_spoiled_numbers_of_many_digits(self):
        for word in SPOILED_NUMBERS:
            self.check_line("1 swap 0 " + word + ": p")
            self.check_line("1 swap " + word + " 0: p")
            self.check_line("1 replace 0 0 0 0 0 1." + word.replace(".0", ".-") + ": p")
        self.check_line("1" + LONG + " swap 0 0: p")
        self.check_line("0" * 4300 + "1 swap 0 0: p")
        # The reader does not read a variable of more than 20 characters in a clause.
        self.check_line("1 swap 0 0: X" + LONG + " = a")

    def test_blanks(self):
        for line in ("1  swap 0 0: p", " 1 swap 0 0: p", "1 swap  0 0: p", "1 swap 0  0: p", "1 swap 0 0 : p",
                     "1 swap 0 0:p",
                     "1 swap 0 0:  p", "1 swap 0 0: p ", "1 swap 0 0: p |q", "1 swap 0 0: p| q", "1 swap 0 0: p  | q",
                     "1 swap 0 0: p(X0, X1)", "1 swap 0 0: a =b", "1 swap 0 0: ~ p", "1\tswap 0 0: p",
                     "1 swap 0 0: p\n",
                     "1 swap 00: p", "1swap 0 0: p", "1 swap 0 0: p(a )", "1 swap 0 0: p\t", "1 instance 0 : p",
                     "1 instance 0  X0=a: p", "1 instance 0 X0 =a: p", "1 instance 0 X0= a: p",
                     "1 instance 0 X0=f(a, b): p"):
            self.check_line(line)

    def test_rules(self):
        for line in ("1 swaps 0 0: p", "1 Swap 0 0: p", "1 : p", "1: p", "1 0 0: p", "1 superposition 0 0: p",
                     "1  0 0: p"):
            self.check_line(line)

    def test_the_number_of_premises_and_data(self):
        for line in ("1 input: p", "1 input 0 0: p", "1 instance: p", "1 instance X0=a: p", "1 instance 0 0: p",
                     "1 instance 0 0 X0=a: p", "1 swap: p", "1 swap 0: p", "1 swap 0 0 0: p", "1 merge 0 0: p",
                     "1 merge 0 0 1 2: p",
                     "1 drop 0: p", "1 drop 0 0 0: p", "1 resolve 0 0 0: p", "1 resolve 0 0 0 0 0: p",
                     "1 replace 0 0 0 0 0: p",
                     "1 replace 0 0 0 0 -: p", "1 replace 0 0 0 0 0 - -: p", "1 replace 0 0 0 0 0 0 -: p",
                     "1 factor 0 0: p",
                     "1 factor 0 0 0 0: p"):
            self.check_line(line)

    def test_positions(self):
        for position in ("", "--", "-1", "1.", ".1", "1..2", "1.02", "01", "1,2", "(1)", "1.-", "+1", "1.2.", "x",
                         "1 2"):
            self.check_line(f"1 replace 0 0 0 0 0 {position}: p")
        for position in ("-", "1", "1.2", "10.20.30"):
            self.assertIsNone(error_of(read_steps, LINES[:1] + [f"1 replace 0 0 0 0 0 {position}: p"]))

    def test_pairs_of_an_instance(self):
        for word in ("X0", "X0=", "=a", "0=a", "X=a", "Y0=a", "x0=a", "X00=a", "X01=a", "X-1=a", "X0=X", "X0=Y1",
                     "X0=a=b", "X0==a",
                     "X0=f(a", "X0=f()", "X0=A", "X0=X01", "X0=~a", "X0=f(X0)a", "X0=(a)", "X0:a", "X+1=a"):
            self.check_line(f"1 instance 0 {word}: p")
            self.check_line(f"1 instance 0 X5=b {word}: p")
            self.check_line(f"1 instance 0 {word} X5=b: p")

    def test_clauses(self):
        for text in ("", "p |", "| p", "p q", "p # q", "p.", "p | false", "False", "p(X)", "p(Y0)", "X0", "~X0",
                     "a = ", "a == b",
                     "p(X00)", "p: q", "p & q", "~a = b", "~~p", "p(f(a)", "p(a))", "true = a", "all X: p"):
            self.check_line(f"1 swap 0 0: {text}")
        for line in ("1 swap 0 0", "1 swap 0 0:", "1 swap 0 0 p", "", " ", "p", ":", ": p", "1 swap 0 0; p"):
            self.check_line(line)

    def test_the_first_line_that_is_wrong(self):
        for number in range(len(LINES)):
            lines = list(LINES)
            lines[number] = lines[number] + " "
            lines[-1] = "wrong"
            self.assertEqual(error_of(read_steps, lines), (number + 1, 1, "invalid step"))
            lines = list(LINES)
            del lines[number]
            expected = None if number == len(LINES) - 1 else (number + 1, 1, "invalid step")
            self.assertEqual(error_of(read_steps, lines), expected)
            self.assertEqual(error_of(read_steps, LINES[:number + 1] + LINES[number:]), (number + 2, 1, "invalid step"))

    def test_steps_need_not_be_correct(self):
        lines = ["0 swap 7 99: p", "1 resolve 1 1 5 6: false", "2 instance 2 X0=a X0=p(q): a = b",
                 "3 replace 0 1 2 3 7 9.9: p | p"]
        self.assertEqual(show_steps(read_steps(lines)), lines)

    def test_the_list_is_not_changed(self):
        lines = list(LINES)
        read_steps(lines)
        self.assertEqual(lines, LINES)


class WrittenStructures(unittest.TestCase):
    """Point 126: writing."""

    def test_the_example(self):
        self.assertEqual(show_structure(Structure(2, {"c": {(): 1}}, {"p": {(1,): True, (0,): False}})),
                         ["size 2", "c = 1", "p(0) = false", "p(1) = true"])

    def test_symbols_and_tuples_in_their_order(self):
        structure = Structure(12, {"g": {(2, 0): 1, (10, 0): 11, (1, 11): 0, (1, 2): 3}, "f": {(11,): 10, (2,): 0},
                                   "b": {(): 7},
                                   "aB": {(): 1}, "a_": {(): 2}, "a": {(): 3}},
                              {"q": {(): False}, "p": {(10,): True, (9,): False}, "a1": {(0, 0): True}})
        lines = ["size 12", "a = 3", "aB = 1", "a_ = 2", "b = 7", "f(2) = 0", "f(11) = 10", "g(1,2) = 3", "g(1,11) = 0",
                 "g(2,0) = 1", "g(10,0) = 11", "a1(0,0) = true", "p(9) = false", "p(10) = true", "q = false"]
        self.assertEqual(show_structure(structure), lines)
        self.assertEqual(read_structure(lines), structure)

    def test_entries_that_are_left_out(self):
        self.assertEqual(show_structure(Structure(3, {"f": {(1,): 0}, "g": {}}, {"p": {}})), ["size 3", "f(1) = 0"])
        self.assertEqual(show_structure(Structure(1, {}, {})), ["size 1"])
        self.assertEqual(read_structure(["size 3"]), Structure(3, {}, {}))
        self.assertNotEqual(read_structure(["size 2", "f(1) = 0"]), read_structure(["size 2"]))

    def test_a_symbol_in_both_tables_and_with_two_numbers_of_arguments(self):
        structure = Structure(2, {"f": {(): 1, (1,): 0, (0, 1): 1, (0,): 1}}, {"f": {(): True, (0,): False}})
        self.assertEqual(show_structure(structure), ["size 2", "f = 1", "f(0) = 1", "f(0,1) = 1", "f(1) = 0",
                                                     "f = true",
                                                     "f(0) = false"])
        self.assertEqual(read_structure(show_structure(structure)), structure)

    def test_random_structures(self):
        choice = random.Random(126)
        for _ in range(60):
            size = choice.choice([1, 2, 3, 12])
            tables = ({}, {})
            for symbol, arity in [("f", 1), ("g", 2), ("c", 0), ("zZ_9", 3), ("all", 1)]:
                for table, values in zip(tables, (range(size), (True, False))):
                    rows = [tuple(choice.randrange(size) for _ in range(arity)) for _ in range(choice.randint(0, 9))]
                    table[symbol + ("" if table is tables[0] else "p")] = {row: choice.choice(values) for row in rows}
            structure = Structure(size, *tables)
            lines = show_structure(structure)
            self.assertEqual(read_structure(lines), structure)
            self.assertEqual(show_structure(read_structure(lines)), lines)


class LongNumbers(unittest.TestCase):
    """Point 126, for sizes and elements of many digits."""

    def test_written(self):
        self.assertTrue(show_structure(Structure(10 ** 4300, {}, {})) == ["size " + LONG])
        structure = Structure(10 ** 4300 + 1, {"f": {(10 ** 4300, 3): 10 ** 4300 - 1}, "c": {(): 10 ** 4300}},
                              {"p": {(10 ** 4300,): False}})
        self.assertTrue(show_structure(structure) == ["size 1" + "0" * 4299 + "1", "c = " + LONG,
                                                      "f(" + LONG + ",3) = " + "9" * 4300, "p(" + LONG + ") = false"])

    def test_read(self):
        for number in LONG_NUMBERS:
            structure = Structure(number, {"f": {(0, number - 1): number - 2}, "c": {(): number - 1}},
                                  {"p": {(number - 1,): True, (3,): False}})
            self.assertTrue(read_structure(show_structure(structure)) == structure)
            self.assertTrue(read_structure(show_structure(structure)) != Structure(number, {}, {}))

    def test_rows_are_in_the_order_of_their_numbers(self):
        tables = {"f": {(9,): 0, (10 ** 4300,): 1, (10 ** 4300 - 1,): 2, (2 * 10 ** 4299,): 3}}
        structure = Structure(10 ** 4400, tables, {})
        lines = show_structure(structure)
        self.assertEqual([line[-1] for line in lines[1:]], ["0", "3", "2", "1"])
        self.assertTrue(read_structure(lines) == structure)
        self.assertEqual(error_of(read_structure, lines[:2] + lines[:1:-1]), (4, 1, "invalid structure"))

    def test_spoiled(self):
        for word in SPOILED_NUMBERS:
            self.assertEqual(error_of(read_structure, ["size " + word]), (1, 1, "invalid structure"))
            for line in ("c = " + word, "f(" + word + ") = 0", "f(0," + word + ") = 0", "p(" + word + ") = true"):
                self.assertEqual(error_of(read_structure, ["size 9" + LONG, line]), (2, 1, "invalid structure"))

    def test_elements_beyond_the_size(self):
        for line in ("c = N", "f(N) = 0", "f(0,N) = 0", "p(N) = true"):
            for size, number in ((10 ** 4300, 2), (10 ** 4300 + 1, None)):
                lines = show_structure(Structure(size, {}, {})) + [line.replace("N", LONG)]
                expected = None if number is None else (number, 1, "invalid structure")
                self.assertEqual(error_of(read_structure, lines), expected)


class ReadStructures(unittest.TestCase):
    """Point 126: reading."""

    lines = ["size 12", "c = 11", "f(0) = 3", "f(2) = 0", "f(11) = 11", "g(1,10) = 0", "g(2,0) = 5", "p = true",
             "q(0) = false",
             "q(11,0) = true"]

    def check_lines(self, lines, number):
        """Make sure that reading stops at the line with this number, counted from 1, or nowhere."""
        expected = None if number is None else (number, 1, "invalid structure")
        self.assertEqual(error_of(read_structure, lines), expected, lines)

    def test_a_structure(self):
        structure = read_structure(self.lines)
        self.assertEqual(structure.functions(), {"c": {(): 11}, "f": {(0,): 3, (2,): 0, (11,): 11},
                                                 "g": {(1, 10): 0, (2, 0): 5}})
        self.assertEqual(structure.predicates(), {"p": {(): True}, "q": {(0,): False, (11, 0): True}})

    def test_the_first_line(self):
        self.check_lines([], 1)
        for line in ("", "size", "size ", "size 0", "size 01", "size -1", "size +1", "size  2", " size 2", "size 2 ",
                     "size two",
                     "Size 2", "size 2.", "size2", "c = 0", "size 2\n", "size \u0662", "sizes 2", "12", "size = 2"):
            self.check_lines([line], 1)
            self.check_lines([line] + self.lines[1:], 1)
        self.check_lines(self.lines[1:], 1)
        self.assertEqual(read_structure(["size 1000000"]).size, 1000000)

    def test_lines_that_are_exchanged(self):
        for first, second in itertools.combinations(range(len(self.lines)), 2):
            lines = list(self.lines)
            lines[first], lines[second] = lines[second], lines[first]
            # Up to the exchanged line there is such a structure, but what follows is less.
            self.check_lines(lines, 1 if first == 0 else first + 2)

    def test_lines_that_are_left_out(self):
        for number in range(1, len(self.lines)):
            self.check_lines(self.lines[:number] + self.lines[number + 1:], None)
        self.check_lines(self.lines[1:], 1)

    def test_lines_that_stand_twice(self):
        for number in range(len(self.lines)):
            self.check_lines(self.lines[:number + 1] + self.lines[number:], number + 2)
        self.check_lines(["size 2", "f(0) = 1", "f(0) = 0"], 3)
        self.check_lines(["size 2", "p = true", "p = false"], 3)
        self.check_lines(["size 2", "c = 0", "size 2"], 3)

    def test_functions_behind_predicates(self):
        self.check_lines(["size 2", "a = true", "b = 1"], 3)
        self.check_lines(["size 2", "b = 1", "a = true"], None)
        self.check_lines(["size 2", "b = 1", "b = true"], None)

    def test_elements_beyond_the_size(self):
        for line, number in [("f(1) = 2", 2), ("f(2) = 1", 2), ("f(1,2) = 0", 2), ("c = 2", 2), ("p(2) = true", 2),
                             ("f(1) = 1", None),
                             ("p(1) = false", None), ("f(1,0) = 10", 2), ("c = 1", None)]:
            self.check_lines(["size 2", line], number)
            self.check_lines(["size 2", "a = 0", line, "wrong"], 4 if number is None else 3)

    def test_spoiled_lines(self):
        for line in ("f(0) = 01", "f(00) = 1", "f(01) = 1", "f(0)  = 1", "f(0) =1", "f(0)= 1", "f(0) = 1 ",
                     " f(0) = 1", "f (0) = 1",
                     "f( 0) = 1", "f(0, 1) = 1", "f(0 ) = 1", "f() = 1", "f(,) = 1", "f(0,) = 1", "f(,0) = 1",
                     "f(0 = 1", "f0) = 1",
                     "f(0)) = 1", "f((0)) = 1", "f(0)(1) = 1", "f(0) = ", "f(0) =", "f(0)", "= 1", " = 1", "(0) = 1",
                     "f(0) == 1",
                     "f(0) != 1", "f(0) = -1", "f(-1) = 0", "f(+1) = 0", "f(0) = +1", "f(0) = True", "f(0) = yes",
                     "f(0) = truefalse",
                     "f(0) = FALSE", "f(0) = 1 = 1", "f(x) = 1", "f(true) = 1", "F(0) = 1", "1 = 1", "_f = 1",
                     "f-g = 1", "f' = 1",
                     "f(0) = 1\n", "f(0) = 1.0", "", "f(0) = 1 # one", "f(0):1", "f(0) = \u0661", "f\u00e9 = 1",
                     "X0 = 1",
                     "a23456789012345678901 = 1", "f[0] = 1", "f(0;1) = 1", "f.g = 1", "f(0) = none", "f(0) = 0x1"):
            self.check_lines(["size 2", line], 2)
            self.check_lines(["size 2", "a = 0", line, "g = 1"], 3)
            self.check_lines(["size 2", "a = 0", "b = 1", line], 4)

    def test_symbols(self):
        self.check_lines(["size 2", "a2345678901234567890 = 1"], None)
        self.check_lines(["size 2", "all = 1", "fZ_0(1) = 0", "false = 0", "goal = true"], None)

    def test_the_list_is_not_changed(self):
        lines = list(self.lines)
        read_structure(lines)
        self.assertEqual(lines, self.lines)


class Reports(unittest.TestCase):
    """Point 127."""

    def test_a_refutation(self):
        session = Session()
        session.add("axiom one: all X: p(X) -> q(X). axiom two: p(a). axiom three: r(b). goal g: q(a).")
        answer = session.attempt()
        names = [name for name, _ in session.clauses()]
        lines = report(answer, names)
        self.assertEqual(lines[0], "refuted")
        self.assertEqual(len(lines), len(answer[2]) + 1)
        for line, written, step in zip(lines[1:], show_steps(answer[2]), answer[2]):
            if step[0] == "input":
                self.assertEqual(line, f"{written} [{names[step[2][0]]}]")
            else:
                self.assertEqual(line, written)
        self.assertIn(" input 0: ~p(X0) | q(X0) [one]", "\n".join(lines))
        self.assertIn("~q(a) [g]", "\n".join(lines))
        self.assertNotIn("[three]", "\n".join(lines))

    def test_a_derivation_as_it_stands(self):
        steps = [("input", (), (1,), read_clause("f(X0) = a")), ("input", (), (0,), read_clause("f(b) != a")),
                 ("instance", (0,), ((0, ("b",)),), read_clause("f(b) = a")), ("resolve", (2, 1), (0, 0), ())]
        inputs = [steps[1][3], steps[0][3]]
        self.assertTrue(check(inputs, steps))
        self.assertEqual(report(("refuted", inputs, steps), ["g", "one"]), [
            "refuted", "0 input 1: f(X0) = a [one]", "1 input 0: f(b) != a [g]", "2 instance 0 X0=b: f(b) = a",
            "3 resolve 2 1 0 0: false"])

    def test_a_saturated_end(self):
        session = Session()
        session.add("axiom one: all X: p(X) -> q(X). axiom two: p(a).")
        answer = session.attempt()
        self.assertEqual(report(answer, ["one", "two"]), ["saturated"] + [show_clause(clause) for clause in answer[1]])
        self.assertEqual(report(answer, ["one", "two"]), ["saturated", "~p(X0) | q(X0)", "p(a)", "q(a)"])
        self.assertEqual(report(("saturated", []), []), ["saturated"])

    def test_the_limits(self):
        self.assertEqual(report(("limit", "steps"), ["one"]), ["limit: steps"])
        self.assertEqual(report(("limit", "size"), []), ["limit: size"])


if __name__ == "__main__":
    unittest.main()
