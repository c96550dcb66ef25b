"""Points 17 to 20: tokens."""

import unittest

from elenchus.errors import TextError
from elenchus.lexer import tokens


class TextErrorTest(unittest.TestCase):
    def assert_error(self, text, line, column, reason):
        with self.assertRaises(TextError) as caught:
            tokens(text)
        error = caught.exception
        self.assertEqual((error.line, error.column, error.reason), (line, column, reason))

    def texts(self, text):
        return [token[:2] for token in tokens(text)]


class Tokens(TextErrorTest):
    """Points 17 and 18."""

    def test_the_examples(self):
        self.assertEqual(tokens("p(X) # one\n -> q"), [
            ("name", "p", 1, 1), ("sign", "(", 1, 2), ("variable", "X", 1, 3), ("sign", ")", 1, 4),
            ("sign", "->", 2, 2), ("name", "q", 2, 5), ("end", "", 2, 6)])
        self.assertEqual(tokens(""), [("end", "", 1, 1)])
        with self.assertRaises(TextError):
            tokens("a\n - b")

    def test_every_sign(self):
        for sign in ["(", ")", ",", ":", ".", "~", "&", "|", "=", "!=", "->", "<->"]:
            self.assertEqual(tokens(sign), [("sign", sign, 1, 1), ("end", "", 1, 1 + len(sign))])

    def test_words(self):
        self.assertEqual(self.texts("a aB_9 Z Xy_0 all true z9"), [
            ("name", "a"), ("name", "aB_9"), ("variable", "Z"), ("variable", "Xy_0"), ("name", "all"),
            ("name", "true"), ("name", "z9"), ("end", "")])

    def test_every_letter(self):
        for letter in "abcdefghijklmnopqrstuvwxyz":
            self.assertEqual(self.texts(letter), [("name", letter), ("end", "")])
            self.assertEqual(self.texts(letter.upper()), [("variable", letter.upper()), ("end", "")])
            word = f"a{letter}{letter.upper()}"
            self.assertEqual(self.texts(word), [("name", word), ("end", "")])

    def test_every_digit(self):
        for digit in "0123456789":
            self.assertEqual(self.texts(f"X{digit}"), [("variable", f"X{digit}"), ("end", "")])

    def test_tokens_are_as_long_as_possible(self):
        self.assertEqual(self.texts("a<->b->c!=d==e"), [
            ("name", "a"), ("sign", "<->"), ("name", "b"), ("sign", "->"), ("name", "c"), ("sign", "!="),
            ("name", "d"), ("sign", "="), ("sign", "="), ("name", "e"), ("end", "")])
        self.assertEqual(self.texts("~~(("), [
            ("sign", "~"), ("sign", "~"), ("sign", "("), ("sign", "("), ("end", "")])
        self.assertEqual(self.texts("->->"), [("sign", "->"), ("sign", "->"), ("end", "")])

    def test_blanks_separate(self):
        self.assertEqual(self.texts("a b\tc\nd"), [
            ("name", "a"), ("name", "b"), ("name", "c"), ("name", "d"), ("end", "")])
        self.assertEqual(self.texts("ab"), [("name", "ab"), ("end", "")])

    def test_remarks(self):
        self.assertEqual(self.texts("a#b\nc"), [("name", "a"), ("name", "c"), ("end", "")])
        self.assertEqual(self.texts("# $ 9 - \" ' # ->\n"), [("end", "")])
        self.assertEqual(self.texts("#\n#\na"), [("name", "a"), ("end", "")])
        self.assertEqual(self.texts(f"#{'x' * 30}\nb"), [("name", "b"), ("end", "")])

    def test_the_list_is_new(self):
        first = tokens("a")
        first.pop()
        self.assertEqual(len(tokens("a")), 2)


class Places(TextErrorTest):
    """Point 19."""

    def test_columns_and_lines(self):
        self.assertEqual(tokens("  ab c\n\nd"), [
            ("name", "ab", 1, 3), ("name", "c", 1, 6), ("name", "d", 3, 1), ("end", "", 3, 2)])

    def test_a_tab_is_one_column(self):
        self.assertEqual(tokens("\ta\t\tb"), [("name", "a", 1, 2), ("name", "b", 1, 5), ("end", "", 1, 6)])

    def test_the_end_token(self):
        cases = [("", 1, 1), (" ", 1, 2), ("\n", 2, 1), ("a\n", 2, 1), ("a\n\n ", 3, 2), ("\t", 1, 2),
                 ("# x", 1, 4), ("a # x", 1, 6), ("#\n", 2, 1), ("a\n#", 2, 2)]
        for text, line, column in cases:
            with self.subTest(text=text):
                self.assertEqual(tokens(text)[-1], ("end", "", line, column))


class Errors(TextErrorTest):
    """Point 20."""

    def test_words_of_20_and_21_characters(self):
        for first in "aX":
            word = first + "b" * 19
            self.assertEqual(tokens(word)[0][1:], (word, 1, 1))
            self.assert_error(f"a\n  {word}b", 2, 3, "name too long")
            self.assert_error(f"{word}9", 1, 1, "name too long")
            self.assert_error(f"{word}_", 1, 1, "name too long")

    def test_texts_of_20000_and_20001_characters(self):
        self.assertEqual(tokens(" " * 20000), [("end", "", 1, 20001)])
        self.assertEqual(len(tokens("a " * 10000)), 10001)
        self.assert_error(" " * 20001, 1, 1, "text too long")
        self.assert_error("#" + "x" * 20000, 1, 1, "text too long")

    def test_every_unknown_character(self):
        for character in "!\"$%'*+-/0123456789;<>?@[\\]^_`{}":
            with self.subTest(character=character):
                self.assert_error(character, 1, 1, "unknown character")
                self.assert_error(f"a\n {character} b", 2, 2, "unknown character")

    def test_beginnings_of_signs(self):
        for beginning in ["-", "- >", "-=", "<", "<-", "<- >", "<=", "<>", "!", "! =", "!-"]:
            with self.subTest(beginning=beginning):
                self.assert_error(f"ab {beginning}", 1, 4, "unknown character")

    def test_a_sign_behind_a_lone_character(self):
        self.assert_error("<<->", 1, 1, "unknown character")
        self.assert_error("!!=", 1, 1, "unknown character")
        self.assert_error("-->", 1, 1, "unknown character")
        self.assert_error("->>", 1, 3, "unknown character")

    def test_where_a_token_would_begin(self):
        self.assert_error("a 1", 1, 3, "unknown character")
        self.assert_error("a _b", 1, 3, "unknown character")
        self.assert_error("(9)", 1, 2, "unknown character")

    def test_the_first_bad_place(self):
        long_word = "x" * 21
        self.assert_error(f"a $ {long_word}", 1, 3, "unknown character")
        self.assert_error(f"a {long_word} $", 1, 3, "name too long")
        self.assert_error(f"{long_word}\n{long_word}$", 1, 1, "name too long")
        self.assert_error("# $\na ? !", 2, 3, "unknown character")

    def test_the_length_comes_first(self):
        self.assert_error("$" + " " * 20000, 1, 1, "text too long")
        self.assert_error("a" * 20001, 1, 1, "text too long")
        self.assert_error("$" + " " * 19999, 1, 1, "unknown character")


if __name__ == "__main__":
    unittest.main()
