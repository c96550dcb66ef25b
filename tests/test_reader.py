"""Points 3 and 21 to 27: texts of statements, formulas, terms and clauses."""

import unittest

from elenchus.errors import TextError
from elenchus.reader import read_clause, read_formula, read_statements, read_term
from elenchus.show import show_clause, show_formula, show_term

TRUE = ("true",)


def atom(symbol, *arguments):
    return ("equal", (symbol, *arguments), TRUE)


A, B, C, D = [atom(symbol) for symbol in "abcd"]


class ReaderTest(unittest.TestCase):
    def assert_error(self, function, text, line, column, reason):
        with self.assertRaises(TextError) as caught:
            function(text)
        error = caught.exception
        self.assertEqual((error.line, error.column, error.reason), (line, column, reason), text)

    def assert_errors(self, function, reason, cases):
        """Each case is a text of one line with a caret in front of the bad place."""
        for case in cases:
            with self.subTest(case=case):
                text = case.replace("^", "")
                self.assert_error(function, text, 1, case.index("^") + 1, reason)


class Statements(ReaderTest):
    """Points 21 and 24."""

    def test_the_examples(self):
        self.assertEqual(
            read_statements("axiom one: all X: p(X) -> X = a. goal g: some Y: ~p(Y)."),
            [("axiom", "one", ("all", "X", ("implies", atom("p", "X"), ("equal", "X", ("a",))))),
             ("goal", "g", ("some", "Y", ("not", atom("p", "Y"))))])
        self.assert_error(read_statements, "axiom one: p(X).", 1, 14, "unbound variable")

    def test_the_empty_text(self):
        for text in ["", " ", "\n\t\n", "# only a remark", "# a\n# b\n"]:
            self.assertEqual(read_statements(text), [])

    def test_several_statements(self):
        self.assertEqual(read_statements("axiom a: a. goal b: b.axiom c:c."),
                         [("axiom", "a", A), ("goal", "b", B), ("axiom", "c", C)])

    def test_a_goal_alone(self):
        self.assertEqual(read_statements("goal g: true."), [("goal", "g", ("true",))])

    def test_blanks_and_remarks_between_all_tokens(self):
        words = ["axiom", "one", ":", "all", "X", ",", "Y", ":", "(", "p", "(", "X", ",", "a", ")", "->", "~", "X",
                 "!=", "Y", ")", "<->", "true", "&", "false", "|", "b", ".", "goal", "g", ":", "b", "."]
        expected = read_statements(" ".join(words))
        self.assertEqual(read_statements("axiom one:all X,Y:(p(X,a)->~X!=Y)<->true&false|b.goal g:b."), expected)
        for between in ["\n", "\t", "  \n\t", "# remark . )\n", "\n#\n#\n "]:
            self.assertEqual(read_statements(between + between.join(words) + between), expected)
        self.assertEqual(len(expected), 2)

    def test_symbols_and_names_may_be_alike(self):
        self.assertEqual(read_statements("axiom a: a."), [("axiom", "a", A)])
        self.assertEqual(read_statements("axiom axioms: goals & alls.")[0][1], "axioms")

    def test_reserved_words(self):
        for word in ["axiom", "goal", "all", "some", "true", "false"]:
            self.assert_errors(read_statements, "unexpected token", [
                f"axiom ^{word}: a.", f"goal ^{word}: a.", f"axiom a: b = ^{word}.", f"axiom a: p(^{word}).",
                f"axiom a: all ^{word}: a."])
        for word in ["axiom", "goal"]:
            self.assert_errors(read_statements, "unexpected token", [f"axiom a: ^{word}.", f"axiom a: ^{word}(b)."])
        for word in ["true", "false"]:
            self.assert_errors(read_statements, "unexpected token", [f"axiom a: {word}^(b).", f"axiom a: {word} ^= b."])

    def test_the_list_is_new(self):
        first = read_statements("axiom a: a.")
        first.clear()
        self.assertEqual(len(read_statements("axiom a: a.")), 1)


class Operators(ReaderTest):
    """Point 22."""

    def check(self, text, formula):
        self.assertEqual(read_formula(text), formula)

    def test_the_example(self):
        self.check("a & b | ~c -> d != e",
                   ("implies", ("or", ("and", A, B), ("not", C)), ("not", ("equal", ("d",), ("e",)))))

    def test_how_operators_associate(self):
        self.check("a -> b -> c", ("implies", A, ("implies", B, C)))
        self.check("a | b | c", ("or", ("or", A, B), C))
        self.check("a & b & c", ("and", ("and", A, B), C))
        self.check("(a -> b) -> c", ("implies", ("implies", A, B), C))
        self.check("a | (b | c)", ("or", A, ("or", B, C)))
        self.check("a & (b & c)", ("and", A, ("and", B, C)))

    def test_how_operators_bind(self):
        self.check("a <-> b -> c", ("iff", A, ("implies", B, C)))
        self.check("a -> b <-> c", ("iff", ("implies", A, B), C))
        self.check("a -> b | c", ("implies", A, ("or", B, C)))
        self.check("a | b -> c", ("implies", ("or", A, B), C))
        self.check("a | b & c", ("or", A, ("and", B, C)))
        self.check("a & b | c", ("or", ("and", A, B), C))
        self.check("a & b -> c | d <-> d", ("iff", ("implies", ("and", A, B), ("or", C, D)), D))

    def test_parentheses(self):
        self.check("((a))", A)
        self.check("a & (b | c)", ("and", A, ("or", B, C)))
        self.check("(a <-> b) <-> c", ("iff", ("iff", A, B), C))
        self.check("a <-> (b <-> c)", ("iff", A, ("iff", B, C)))

    def test_iff_does_not_associate(self):
        self.assert_errors(read_formula, "unexpected token", [
            "a <-> b ^<-> c", "(a <-> b ^<-> c)", "a -> b <-> c -> d ^<-> a", "all X: a <-> b ^<-> c"])

    def test_negation(self):
        self.check("~a & b", ("and", ("not", A), B))
        self.check("~a -> b", ("implies", ("not", A), B))
        self.check("~(a & b)", ("not", ("and", A, B)))
        self.check("~~a", ("not", ("not", A)))
        self.check("~a = b", ("not", ("equal", ("a",), ("b",))))
        self.check("~a != b", ("not", ("not", ("equal", ("a",), ("b",)))))
        self.check("~true", ("not", ("true",)))
        self.check("~false", ("not", ("false",)))
        self.check("~all X: a & b", ("not", ("all", "X", ("and", A, B))))
        self.check("~~some X: a -> b", ("not", ("not", ("some", "X", ("implies", A, B)))))

    def test_the_scope_of_a_quantifier(self):
        self.check("all X: a & b", ("all", "X", ("and", A, B)))
        self.check("all X: a -> b", ("all", "X", ("implies", A, B)))
        self.check("some X: a <-> b", ("some", "X", ("iff", A, B)))
        self.check("a & all X: b | c", ("and", A, ("all", "X", ("or", B, C))))
        self.check("a | some X: b -> c", ("or", A, ("some", "X", ("implies", B, C))))
        self.check("a -> all X: b <-> c", ("implies", A, ("all", "X", ("iff", B, C))))
        self.check("a <-> all X: b <-> c", ("iff", A, ("all", "X", ("iff", B, C))))
        self.check("(all X: a) & b", ("and", ("all", "X", A), B))
        self.check("(a & all X: b | c) -> d", ("implies", ("and", A, ("all", "X", ("or", B, C))), D))
        self.check("((some X: a -> b)) <-> c", ("iff", ("some", "X", ("implies", A, B)), C))
        self.check("all X: a & some Y: b -> c", ("all", "X", ("and", A, ("some", "Y", ("implies", B, C)))))
        self.check("(~all X: a & b) & c", ("and", ("not", ("all", "X", ("and", A, B))), C))

    def test_iff_behind_the_scope_of_a_quantifier(self):
        self.assert_errors(read_formula, "unexpected token", [
            "a -> all X: b <-> c ^<-> d", "all X: b <-> c ^<-> d", "a & ~some X: b <-> c ^<-> d",
            "(a | all X: b <-> c ^<-> d)", "a <-> all X: b <-> c ^<-> d"])

    def test_several_variables(self):
        self.check("all X, Y: X = Y", ("all", "X", ("all", "Y", ("equal", "X", "Y"))))
        self.check("some Z, X, Y: a", ("some", "Z", ("some", "X", ("some", "Y", A))))
        self.check("all X, X: X = X", ("all", "X", ("all", "X", ("equal", "X", "X"))))

    def test_atoms(self):
        self.check("p(a)", atom("p", ("a",)))
        self.check("f(a) = b", ("equal", ("f", ("a",)), ("b",)))
        self.check("f(a) != b", ("not", ("equal", ("f", ("a",)), ("b",))))
        self.check("all X: X = a", ("all", "X", ("equal", "X", ("a",))))
        self.check("all X: a != X", ("all", "X", ("not", ("equal", ("a",), "X"))))
        self.check("true", ("true",))
        self.check("false", ("false",))

    def test_a_variable_alone_is_no_atom(self):
        self.assert_errors(read_formula, "unexpected token", [
            "all X: (X^)", "all X: X ^& a", "all X: ~X ^-> a", "all X: X^(a)"])
        self.assert_errors(read_formula, "unexpected end", ["all X: X^", "all X: a & X^"])

    def test_written_forms_are_read_again(self):
        for text in ["all X: p(X) -> some Y: q(X, Y) & ~(X = Y <-> p(Y))", "~~a != b | ~(c -> d & ~true)",
                     "(all X: X = a) <-> ~some X, Y: X != f(Y, g(X)) -> false"]:
            formula = read_formula(text)
            self.assertEqual(read_formula(show_formula(formula)), formula)


class Terms(ReaderTest):
    """Points 23, 24 and 27."""

    def test_numbers_of_arguments(self):
        self.assertEqual(read_term("a"), ("a",))
        self.assertEqual(read_term("f(a)"), ("f", ("a",)))
        eight = ("f", *[(letter,) for letter in "abcdefgh"])
        self.assertEqual(read_term("f(a,b,c,d,e,f,g,h)"), eight)
        self.assertEqual(read_formula("p(a,b,c,d,e,f,g,h)"), ("equal", ("p", *eight[1:]), TRUE))
        self.assertEqual(read_term("f(g(X0, h(X3)), a)"), ("f", ("g", 0, ("h", 3)), ("a",)))

    def test_no_arguments_in_parentheses(self):
        self.assert_errors(read_term, "unexpected token", ["f(^)", "f(a,^)", "f(^,a)", "f(a ^b)", "^(a)"])
        self.assert_errors(read_formula, "unexpected token", ["p(^)", "p(a ^= a)", "p(^(a))", "p(^~a)", "p(a)^(a)"])

    def test_variables(self):
        for number in [0, 1, 9, 10, 12, 100, 1234567890123456789]:
            self.assertEqual(read_term(f"X{number}"), number)
            self.assertEqual(read_clause(f"f(X{number}) = X{number}"), ((True, ("f", number), number),))

    def test_other_variables(self):
        for name in ["X", "X00", "X01", "X0a", "X_1", "X1_", "Xx", "Y", "Y0", "XX1", "A1"]:
            self.assert_errors(read_term, "unexpected token", [f"^{name}", f"f(^{name})", f"f(a,^{name})"])
            self.assert_errors(read_clause, "unexpected token", [
                f"^{name} = a", f"p(^{name})", f"a = ^{name}", f"a | p(X0, ^{name})"])

    def test_terms_alone(self):
        self.assert_error(read_term, "", 1, 1, "unexpected end")
        self.assert_errors(read_term, "unexpected end", ["f(^", "f(a^", "f(a,^"])
        self.assert_errors(read_term, "unexpected token", [
            "a ^b", "a^.", "a ^= b", "^true", "^~a", "^all", "X0^(a)", "X0 ^X1", "a^)", "f(a)^)", "f(^true)"])

    def test_written_forms_are_read_again(self):
        for term in [0, 17, ("a",), ("f", 0, ("g", ("h", 5), 1), ("a",))]:
            self.assertEqual(read_term(show_term(term)), term)


class Clauses(ReaderTest):
    """Point 27."""

    def test_the_examples(self):
        self.assertEqual(read_clause("f(X0) = a | ~p(X1, X0) | X1 != X0"),
                         ((True, ("f", 0), ("a",)), (False, ("p", 1, 0), TRUE), (False, 1, 0)))
        self.assertEqual(read_clause("false"), ())

    def test_literals(self):
        self.assertEqual(read_clause("p"), ((True, ("p",), TRUE),))
        self.assertEqual(read_clause("~p(X0)"), ((False, ("p", 0), TRUE),))
        self.assertEqual(read_clause("X0 = X1"), ((True, 0, 1),))
        self.assertEqual(read_clause("a != f(b)"), ((False, ("a",), ("f", ("b",))),))
        self.assertEqual(read_clause("true"), ((True, TRUE, TRUE),))
        self.assertEqual(read_clause("~true"), ((False, TRUE, TRUE),))
        self.assertEqual(read_clause("~true | true | p"),
                         ((False, TRUE, TRUE), (True, TRUE, TRUE), (True, ("p",), TRUE)))

    def test_wrong_clauses(self):
        self.assert_errors(read_clause, "unexpected token", [
            "false ^| p", "p | ^false", "~^false", "~^~p", "~^X0", "~p(a) ^= b", "~a ^!= b", "true ^= a", "~true ^= a",
            "a = ^true", "X0 ^| p", "p ^& q", "p ^-> q", "^(p)", "p ^q", "p^.", "^all", "^some", "^axiom", "^goal",
            "a = b ^= c", "^| p", "p | ^| q", "false ^false", "f(^false)", "true^(a)", "X0^(a)"])
        self.assert_errors(read_clause, "unexpected end", [
            "^", "p |^", "~^", "a =^", "a !=^", "X0^", "p(^", "p(a^", "p | X0^"])

    def test_40_and_41_parentheses(self):
        deep = "f(" * 40 + "X0" + ")" * 40
        term = 0
        for _ in range(40):
            term = ("f", term)
        self.assertEqual(read_term(deep), term)
        self.assertEqual(read_clause(f"{deep} = {deep}"), ((True, term, term),))
        self.assertEqual(read_clause(f"~{deep}"), ((False, term, TRUE),))
        self.assert_error(read_term, f"f({deep})", 1, 82, "nesting too deep")
        self.assert_error(read_clause, f"~f({deep})", 1, 83, "nesting too deep")
        self.assert_error(read_clause, f"a = f({deep})", 1, 86, "nesting too deep")
        self.assertEqual(len(read_clause(" | ".join(["p(a)"] * 50))), 50)
        wide = "f(" * 39 + "g(a),g(a),g(" + "X0" + ")" * 40
        self.assertEqual(read_clause(f"p | {wide} = {wide}")[1][1], read_term(wide))
        self.assert_error(read_term, "f(" * 39 + "g(a),g(g(", 1, 78 + 9, "nesting too deep")

    def test_nine_arguments(self):
        self.assert_errors(read_clause, "too many arguments", ["p(a,b,c,d,e,f,g,h^,i)", "a = f(a,b,c,d,e,f,g,h^,"])
        self.assert_errors(read_term, "too many arguments", ["f(a,b,c,d,e,f,g,f(a)^,i)"])

    def test_errors_of_tokens_come_first(self):
        self.assert_errors(read_clause, "unknown character", ["| p(a ^$", "p(Y) ^?"])
        self.assert_errors(read_term, "unknown character", ["= ^9"])

    def test_written_forms_are_read_again(self):
        for text in ["false", "true", "~true", "p(X0) | X3 = f(X1,X0) | a != X12 | ~q"]:
            self.assertEqual(show_clause(read_clause(text)), text)


class OpenTokens(ReaderTest):
    """Point 25."""

    def test_40_and_41_parentheses(self):
        self.assertEqual(read_formula("(" * 40 + "a" + ")" * 40), A)
        self.assert_error(read_formula, "(" * 41 + "a" + ")" * 41, 1, 41, "nesting too deep")
        self.assert_error(read_formula, "(" * 41, 1, 41, "nesting too deep")

    def test_40_and_41_negations(self):
        self.assert_error(read_formula, "~" * 40 + "a", 1, 42, "formula too high")
        self.assert_error(read_formula, "~" * 41 + "a", 1, 41, "nesting too deep")

    def test_40_and_41_implications(self):
        self.assert_error(read_formula, "a->" * 40 + "a", 1, 122, "formula too high")
        self.assert_error(read_formula, "a->" * 41 + "a", 1, 122, "nesting too deep")

    def test_40_and_41_quantifiers(self):
        for quantifier in ["all", "some"]:
            text = f"{quantifier} X:" * 40
            self.assert_error(read_formula, text + "a", 1, len(text) + 2, "formula too high")
            self.assert_error(read_formula, f"{text}{quantifier} X:a", 1, len(text + quantifier) + 2,
                              "nesting too deep")

    def test_parentheses_of_terms(self):
        read_formula("p(" * 40 + "a" + ")" * 40)
        self.assert_error(read_formula, "p(" * 41 + "a" + ")" * 41, 1, 82, "nesting too deep")
        self.assert_error(read_formula, "a = " + "p(" * 41 + "a" + ")" * 41, 1, 86, "nesting too deep")

    def test_variables_of_one_quantifier(self):
        text = "all " + ",".join(["X"] * 40)
        self.assert_error(read_formula, f"{text}:a", 1, 86, "formula too high")
        self.assert_error(read_formula, f"{text},X:a", 1, 85, "nesting too deep")

    def test_kinds_of_open_tokens_count_together(self):
        opening = "~" * 10 + "(" * 10 + "all X, Y: some Z, X, Y: " + "a -> " * 10
        end = len(opening)
        read_formula(opening + "f(g(h(i(j(a))))) = b" + ")" * 10)
        read_formula(opening + "~~~~~a" + ")" * 10)
        cases = [("f(g(h(i(j(k(a))))))", 12), ("~~~~~~a", 6), ("~~~~~(a", 6), ("~~~~~all X: a", 10),
                 ("~~~~~a(b", 7), ("a -> a -> a -> a -> a -> a -> a", 28), ("~~~~~f(a) = b", 7)]
        for text, column in cases:
            with self.subTest(text=text):
                self.assert_error(read_formula, opening + text, 1, end + column, "nesting too deep")

    def test_complete_tokens_are_not_open(self):
        outside = "(" * 38
        for part in ["~~a", "~(a)", "((a))", "(a -> b)", "(all X: a)", "(some X: X = a)", "p(f(a))",
                     "p(f(a)) = f(f(b))", "(p(b) -> b)"]:
            with self.subTest(part=part):
                read_formula(f"{outside}{part} & {part} | {part} <-> {part}" + ")" * 38)
        many = [f"axiom s{k}: ~~~(a -> all X: p(f(X)))." for k in range(100)]
        self.assertEqual(len(read_statements(" ".join(many))), 100)

    def test_other_tokens_stay_open(self):
        outside = "(" * 38
        for part in ["a", "a = b", "p(a)", "p(f(b))", "~a", "~~a", "(a)", "(a -> b)", "(all X: a)", "~p(b)",
                     "p(b) != f(a)"]:
            with self.subTest(part=part):
                read_formula(f"{outside}{part} & ((a)){')' * 38}")
                text = f"{outside}{part} & ("
                self.assert_error(read_formula, f"{text}((a", 1, len(text) + 2, "nesting too deep")
                self.assert_error(read_formula, f"{text}~~a", 1, len(text) + 2, "nesting too deep")

    def test_a_negation_is_complete_at_the_end_of_its_operand(self):
        inside = "(" * 39 + "~a -> b" + ")" * 39
        self.assertEqual(read_formula(inside), ("implies", ("not", A), B))
        self.assert_error(read_formula, "(" * 39 + "~p(a)", 1, 42, "nesting too deep")
        self.assert_error(read_formula, "(" * 39 + "~a = p(", 1, 46, "nesting too deep")
        self.assert_error(read_formula, "(" * 38 + "~all X: a -> b", 1, 49, "nesting too deep")

    def test_an_implication_is_complete_at_its_right_end(self):
        outside = "(" * 30
        chain = "a->" * 9 + "a"
        read_formula(f"{outside}({chain}) & ({chain}){')' * 30}")
        read_formula(f"{outside}{chain} <-> {chain}{')' * 30}")
        read_formula(f"{outside}a->{chain} <-> a->{chain}{')' * 30}")
        self.assert_error(read_formula, f"{outside}{chain} <-> a->a->{chain}", 1, 30 + 28 + 5 + 32, "nesting too deep")
        self.assert_error(read_formula, f"{outside}a->{chain} <-> ({chain}->a", 1, 30 + 31 + 5 + 30, "nesting too deep")

    def test_an_open_implication_counts_in_its_right_operand_alone(self):
        read_formula("(" * 40 + "a" + ")" * 40 + " -> b")
        self.assert_error(read_formula, "b -> " + "(" * 40 + "a" + ")" * 40, 1, 45, "nesting too deep")


class Heights(ReaderTest):
    """Points 25 and 26."""

    def test_heights_of_40_and_41(self):
        for text in [" & ".join(["a"] * 40), " | ".join(["a"] * 40), "~" * 39 + "a", "a -> " * 39 + "a",
                     "all X: " * 39 + "a", "~" * 38 + "a != b", "a != b" + " & a" * 38, "~" * 39 + "a = b",
                     " | ".join(["true"] * 40), "~" * 39 + "false", "all X: " * 38 + "a != b",
                     "(" * 40 + "a" + ")" * 40]:
            with self.subTest(text=text):
                formula = read_formula(text)
                self.assertEqual(read_statements(f"axiom one: {text}."), [("axiom", "one", formula)])
        for text in [" & ".join(["a"] * 41), " | ".join(["true"] * 41), "~" * 40 + "a", "a -> " * 40 + "a",
                     "all X: " * 40 + "a", "some X,Y: " * 20 + "a", "~" * 39 + "a != b", "~" * 40 + "a = b",
                     "~" * 40 + "false", "all X: " * 39 + "a != b", "a != b" + " & a" * 39,
                     "~(" + " | ".join(["a"] * 40) + ")", "a <-> " + " & ".join(["a"] * 40)]:
            with self.subTest(text=text):
                self.assert_error(read_formula, text, 1, len(text) + 1, "formula too high")
                self.assert_error(read_formula, f"{text}\n # end", 2, 7, "formula too high")
                self.assert_error(read_statements, f"axiom one: {text}\n  . # end", 2, 3, "formula too high")

    def test_a_very_high_formula(self):
        text = "&".join(["a"] * 9000)
        self.assert_error(read_formula, text, 1, 18000, "formula too high")

    def test_the_height_is_looked_at_last(self):
        high = " & ".join(["a"] * 41)
        self.assert_error(read_formula, f"{high} )", 1, len(high) + 2, "unexpected token")
        self.assert_error(read_formula, f"{high} &", 1, len(high) + 3, "unexpected end")
        self.assert_error(read_statements, f"axiom a: {high}", 1, len(high) + 10, "unexpected end")
        self.assert_error(read_statements, f"axiom a: {high}. goal a", 1, len(high) + 10, "formula too high")
        self.assert_error(read_statements, f"axiom a: {high} & p(X).", 1, len(high) + 15, "unbound variable")


class Errors(ReaderTest):
    """Point 26."""

    def test_unexpected_tokens_of_statements(self):
        self.assert_errors(read_statements, "unexpected token", [
            "^one: a.", "^X", "^.", "^(", "axiom ^X: a.", "axiom ^: a.", "axiom a ^a.", "axiom a^.", "axiom a: ^.",
            "axiom a: a ^axiom b: b.", "axiom a: a.^.", "axiom a: a. ^b", "axiom a: (a^.", "axiom a: a^)", "goal ^(",
            "axiom a ^= b.", "^axioms a: b.", "^all X: a."])

    def test_unexpected_tokens_of_formulas(self):
        self.assert_errors(read_formula, "unexpected token", [
            "^)", "^&", "a ^b", "a & ^& b", "a ^~ b", "true ^(b)", "(a^,b)", "^= a", "a = b ^= c", "a = ^~b",
            "a = ^(b)", "all ^a: a", "all ^: a", "all X ^a", "all X, ^: a", "all X^. a", "all X,^a: b", "a^.", "a ^: b",
            "(^)", "a ^all X: a", "~^)", "~^&", "a -> ^-> b", "true ^true", "a != ^!= b", "a != b ^!= c", "p(a)^(b)",
            "all ^all X: a", "(all X^): a", "(a)^(b)", "(a) ^= b", "~a ^~b", "^axiom a: b"])

    def test_unexpected_ends(self):
        self.assert_errors(read_formula, "unexpected end", [
            "^", "a &^", "(a^", "~^", "all^", "all X^", "all X,^", "all X:^", "a =^", "p(^", "p(a^", "p(a,^", "a <->^",
            "a ->^", "# nothing^"])
        self.assert_errors(read_statements, "unexpected end", [
            "axiom^", "axiom a^", "goal a:^", "axiom a: a^", "axiom a: a. goal^", "axiom a: (a^", "axiom a: a # .^"])

    def test_the_place_of_the_end(self):
        self.assert_error(read_formula, "a &\n  ", 2, 3, "unexpected end")
        self.assert_error(read_statements, "axiom a: a\n# .\n", 3, 1, "unexpected end")

    def test_too_many_arguments(self):
        self.assert_errors(read_formula, "too many arguments", [
            "p(a,b,c,d,e,f,g,h^,i)", "p(a,b,c,d,e,f,g,h^,)", "a = f(a,b,c,d,e,f,g,h^,",
            "f(a,g(a,b,c,d,e,f,g,h^,i))", "f(a,b,c,d,e,f,g,h(a)^,i)"])

    def test_names_that_are_used(self):
        self.assert_errors(read_statements, "name already used", [
            "axiom a: a. axiom ^a: b.", "goal a: a. axiom ^a b", "axiom a: a. axiom b: a. goal ^a: a.",
            "axiom a: a. axiom b: b. axiom ^b: p(X)."])

    def test_second_goals(self):
        self.assert_errors(read_statements, "second goal", [
            "goal a: a. ^goal b: b.", "goal a: a. axiom b: b. ^goal a: b.", "goal a: a. ^goal ("])

    def test_unbound_variables(self):
        self.assert_errors(read_formula, "unbound variable", [
            "^X = a", "a = ^X", "p(a, ^X)", "all X: X = ^Y", "(all X: X = a) & ^X = a", "(all X: p(X)) -> p(^X)",
            "~^X != a", "all X: (some Y: Y = X) | ^Y = X", "^X", "all X, Y: p(X, Y, ^Z)"])
        self.assert_errors(read_statements, "unbound variable", ["axiom a: all X: p(X). axiom b: p(^X)."])

    def test_bound_variables(self):
        read_formula("all X: (some X: p(X)) & p(X)")
        read_formula("all X: (some Y: p(Y) & p(X)) & (all Y: q(X, Y))")
        read_formula("all X, X: (some X: p(X)) & p(X)")

    def test_errors_of_tokens_come_first(self):
        self.assert_errors(read_statements, "unknown character", ["one: p(X) axiom axiom ^$"])
        self.assert_errors(read_formula, "unknown character", ["X & & ( ) ^9"])
        self.assert_errors(read_formula, "name too long", ["p(X) & & ^" + "a" * 21])
        self.assert_error(read_statements, "$" * 20001, 1, 1, "text too long")
        self.assert_error(read_formula, "a" * 20001, 1, 1, "text too long")

    def test_the_first_token_of_several_errors(self):
        self.assert_errors(read_formula, "unbound variable", ["p(^X) & & a", "^X & a", "p(^X, Y"])
        self.assert_errors(read_formula, "unexpected token", ["a & ^& p(X)"])
        self.assert_errors(read_statements, "second goal", ["goal a: a. ^goal a: p(X)."])
        self.assert_errors(read_statements, "name already used", ["goal a: a. axiom ^a: p(X). goal b: b."])

    def test_several_errors_at_one_token(self):
        full = "~" * 40
        self.assert_error(read_formula, f"{full}true (", 1, 46, "unexpected token")
        self.assert_error(read_formula, f"{full}(a", 1, 41, "nesting too deep")
        self.assert_error(read_formula, "(" * 40 + "a ~", 1, 43, "unexpected token")
        self.assert_error(read_formula, "~" * 39 + "all X, Y: a", 1, 47, "nesting too deep")
        self.assert_error(read_formula, "~" * 40 + "all a", 1, 45, "unexpected token")
        self.assert_error(read_formula, "a X", 1, 3, "unexpected token")
        self.assert_error(read_statements, "goal a: a. goal: b.", 1, 12, "second goal")
        self.assert_error(read_statements, "goal a: a goal b: b.", 1, 11, "unexpected token")
        self.assert_error(read_statements, "axiom a: a. axiom b a", 1, 21, "unexpected token")
        self.assert_error(read_statements, "axiom a: a. a", 1, 13, "unexpected token")


if __name__ == "__main__":
    unittest.main()
