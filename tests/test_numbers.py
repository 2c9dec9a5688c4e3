"""Integers, primes and numbers [0.1], [0.8], [0.9]."""

import math
import unittest

from support import Checks, wrong_values
from tangentrows.base import numbers as module
from tangentrows.base.numbers import common_divisor, inverse, is_integer, is_number, is_prime, normal
from tangentrows.errors import InvalidNumber, InvalidOperation
from tangentrows.form.forms import Form

GREAT = 10 ** 60 - 1
ALL = (0, 2, 3, 5, 7, 11, 13, 17, 19)


class NumbersTest(Checks, unittest.TestCase):
    def test_constants(self):
        self.assert_same(module.PRIMES, (2, 3, 5, 7, 11, 13, 17, 19))
        self.assert_same(module.MAX_NUMBERS, 140)

    def test_is_integer(self):
        for value in (0, 1, -1, GREAT, -GREAT, 10 ** 59):
            self.assertIs(is_integer(value), True)
        for value in (True, False, None, "1", (), (1,), [], {}, 10 ** 60, -10 ** 60, 10 ** 99, Form(0, 2)):
            self.assertIs(is_integer(value), False)

    def test_is_prime(self):
        for value in range(-3, 40):
            self.assertIs(is_prime(value), value in ALL)
        for value in (True, False, None, "2", (2,), [2], {2: 2}, 10 ** 60, 23, Form(0, 2)):
            self.assertIs(is_prime(value), False)

    def test_is_number(self):
        for prime in ALL[1:]:
            for value in range(-3, 25):
                self.assertIs(is_number(prime, value), 0 <= value < prime)
            for value in (True, False, None, "1", (1,), [], {}, GREAT, 10 ** 60):
                self.assertIs(is_number(prime, value), False)
        for value in (0, 5, -5, GREAT, -GREAT):
            self.assertIs(is_number(0, value), True)
        for value in (True, False, None, 10 ** 60, -10 ** 60, "0", ()):
            self.assertIs(is_number(0, value), False)

    def test_wrong_primes(self):
        for prime in wrong_values():
            for call in (lambda: is_number(prime, 1), lambda: is_number(prime, None), lambda: inverse(prime, None),
                         lambda: normal(prime, None)):
                self.assert_raises(InvalidNumber(prime), call)
        self.assertIs(is_number(2, 1), True)

    def test_inverse(self):
        for prime in ALL[1:]:
            for number in range(1, prime):
                other = inverse(prime, number)
                self.assertIs(is_number(prime, other), True)
                self.assertEqual(number * other % prime, 1)

    def test_inverse_errors(self):
        self.assert_raises(InvalidNumber(0), inverse, 0, 1)
        self.assert_raises(InvalidNumber(0), inverse, 0, 0)
        for number in (0, 7, -1, True, None, "1", (1,), 10 ** 60, 8):
            self.assert_raises(InvalidNumber(number), inverse, 7, number)
        self.assert_raises(InvalidNumber(4), inverse, 4, 0)

    def test_common_divisor(self):
        self.assert_same(common_divisor(()), 0)
        self.assert_same(common_divisor((0, 0)), 0)
        self.assert_same(common_divisor((-6,)), 6)
        self.assert_same(common_divisor((0, -6, 9)), 3)
        self.assert_same(common_divisor((GREAT, -GREAT, 0)), GREAT)
        self.assert_same(common_divisor((6, 10, 15)), 1)
        self.assert_same(common_divisor((4,) * 140), 4)
        self.assertEqual(common_divisor((2 ** 90 * 3 ** 5, 2 ** 80 * 3 ** 9)), 2 ** 80 * 3 ** 5)

    def test_common_divisor_errors(self):
        for value in ((4,) * 141, [4, 6], None, 4, True, "46", (4, True), (4, None), (4, 10 ** 60), ((4,),), {4: 6}):
            self.assert_raises(InvalidOperation, common_divisor, value)

    def test_normal(self):
        self.assert_same(normal(0, (0, -4, 6)), (0, 2, -3))
        self.assert_same(normal(0, (-7,)), (1,))
        self.assert_same(normal(0, (GREAT, -GREAT)), (1, -1))
        self.assert_same(normal(0, (0,) * 139 + (-9,)), (0,) * 139 + (1,))
        for prime in ALL[1:]:
            for first in range(1, prime):
                told = normal(prime, (0, first, 1, 0))
                self.assertEqual(told[:2], (0, 1))
                self.assertEqual(told[2] * first % prime, 1)

    def test_normal_is_a_multiple(self):
        for numbers in ((12, -18, 30), (-5, 0, 10), (0, 0, -8), (3, 4, 5)):
            told = normal(0, numbers)
            self.assertEqual(math.gcd(*told), 1)
            self.assertGreater([number for number in told if number][0], 0)
            self.assertTrue(all(a * d == b * c for a, c in zip(numbers, told) for b, d in zip(numbers, told)))
            self.assertEqual(normal(0, told), told)

    def test_normal_errors(self):
        for value in ((), (0,), (0, 0, 0), (1,) * 141, [1, 2], None, 1, "12", (1, True), (1, 10 ** 60), (1, None), {}):
            self.assert_raises(InvalidOperation, normal, 0, value)
        for value in ((5, 1), (-1, 1), (0, 0), (1, True), ()):
            self.assert_raises(InvalidOperation, normal, 5, value)
        self.assert_raises(InvalidNumber(6), normal, 6, ())


if __name__ == "__main__":
    unittest.main()
