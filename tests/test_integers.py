"""Points 3 and 8: integers, and decimal numbers of any length."""

import random
import sys
import unittest

from elenchus.integers import decimal, from_decimal, is_integer

# One digit less and more than Python's limit, the pieces that the module takes, and their squares.
LENGTHS = [*range(1, 10), 63, 64, 65, 127, 128, 129, 191, 192, 193, 255, 256, 257, 511, 512, 513, 1023, 1024, 1025,
           4096, 4299, 4300, 4301, 5000, 8191, 8192, 8193, 9000]


class Integers(unittest.TestCase):
    def test_what_is_an_integer(self):
        for value in (0, 1, -1, 10 ** 5000, -10 ** 5000):
            self.assertTrue(is_integer(value))
        for value in (True, False, None, "1", 1.0, (1,), [], ("a",)):
            self.assertFalse(is_integer(value))


class Decimals(unittest.TestCase):
    def check(self, number, digits):
        """Make sure that the number is written with these digits, and is what they stand for."""
        # Such numbers are no use in a message.
        self.assertTrue(decimal(number) == digits, len(digits))
        self.assertTrue(from_decimal(digits) == number, len(digits))
        self.assertTrue(decimal(-number) == ("-" if number else "") + digits, len(digits))

    def test_small_numbers(self):
        for number in range(1200):
            self.check(number, f"{number}")

    def test_round_numbers(self):
        for length in LENGTHS:
            self.check(10 ** length, "1" + "0" * length)
            self.check(10 ** length - 1, "9" * length)
            self.check(10 ** length + 1, "1" + "0" * (length - 1) + "1")
            self.check(12 * 10 ** (length + 2) + 345, "12" + "345".zfill(length + 2))

    def test_random_numbers(self):
        choice = random.Random(8)
        for length in LENGTHS:
            digits = choice.choice("123456789") + "".join(choice.choices("0123456789", k=length - 1))
            number = 0
            for digit in digits:
                number = 10 * number + ord(digit) - ord("0")
            self.check(number, digits)

    def test_the_limit_of_python_does_not_matter(self):
        limit = sys.get_int_max_str_digits()
        try:
            for digits in (640, 0, limit):
                sys.set_int_max_str_digits(digits)
                for length in LENGTHS:
                    self.check(10 ** length + 7, "1" + "7".zfill(length))
        finally:
            sys.set_int_max_str_digits(limit)

    def test_zeros_in_front_of_digits(self):
        for length in LENGTHS:
            self.assertEqual(from_decimal("0" * length), 0)
            self.assertEqual(from_decimal("0" * length + "12"), 12)
            self.assertTrue(from_decimal("0" * 70 + "1" + "0" * length) == 10 ** length)

    def test_a_very_long_number(self):
        self.check(10 ** 60000 - 10 ** 20000, "9" * 40000 + "0" * 20000)


if __name__ == "__main__":
    unittest.main()
