"""Lines and points: [0.9], [0.11], [3.1]."""

import itertools
import random
import unittest
from math import gcd

from support import Checks, wrong_values
from tangentrows.errors import InvalidLine, InvalidNumber, InvalidOperation, InvalidPoint, Refused, TooMany
from tangentrows.plane import lines as module
from tangentrows.plane.lines import each_line, is_line, is_on, is_point, join, line_of, meet

GREAT = 10 ** 60 - 1
PRIMES = (2, 3, 5, 7)
NO_TRIPLES = (None, 1, True, "xyz", [1, 0, 0], (), (1,), (1, 0), (1, 0, 0, 0), (0, 0, 0), (True, 0, 0), (1, False, 0), (1, 0, None),
              ("1", 0, 0), (2, 0, 0), (2, 4, 6), (-1, 0, 0), (0, -1, 1), (0, 0, 2), (10 ** 60, 1, 0), (1, -10 ** 60, 0), {}, ((1, 0, 0),))


def plain_triples(prime):
    """All normal triples over a prime, by their definition."""
    return [triple for triple in itertools.product(range(prime), repeat=3)
            if any(triple) and [number for number in triple if number][0] == 1]


def some_triples(source, many, most):
    found = []
    while len(found) < many:
        triple = tuple(source.randint(-most, most) for _ in range(3))
        if any(triple) and gcd(*triple) == 1 and [number for number in triple if number][0] > 0:
            found.append(triple)
    return found


class KindsTest(Checks, unittest.TestCase):
    def test_constant(self):
        self.assert_same(module.MAX_ENTRY, 1000)

    def test_over_primes(self):
        for prime in PRIMES:
            all_of_them = plain_triples(prime)
            self.assertEqual(len(all_of_them), prime * prime + prime + 1)
            for value in itertools.product(range(-1, prime + 1), repeat=3):
                self.assertIs(is_line(prime, value), value in all_of_them)
                self.assertIs(is_point(prime, value), value in all_of_them)

    def test_over_fractions(self):
        for value in ((1, 0, 0), (0, 0, 1), (1, -1, 0), (2, -3, 5), (0, 3, -7), (1, 1000, -1000), (1000, 999, 0), (0, 1, -1000)):
            self.assertIs(is_line(0, value), True)
            self.assertIs(is_point(0, value), True)
        for value in ((1, 1001, 0), (1, -1001, 0), (1001, 1, 0), (0, 1, GREAT), (GREAT, 1, 0), (1, 0, -GREAT)):
            self.assertIs(is_line(0, value), False)
            self.assertIs(is_point(0, value), True)
        for value in NO_TRIPLES:
            self.assertIs(is_line(0, value), False)
            self.assertIs(is_point(0, value), False)
            if value not in ((0, -1, 1), (0, 0, 2)):
                self.assertIs(is_line(2, value), False)

    def test_wrong_values(self):
        for value in wrong_values():
            self.assertIs(is_line(0, value), value == (1, 0, 0) and value[0] is not True)
            self.assertIs(is_point(5, value), value == (1, 0, 0) and value[0] is not True)

    def test_wrong_primes(self):
        for prime in wrong_values():
            for call in (lambda: is_line(prime, None), lambda: is_point(prime, None), lambda: line_of(prime, None),
                         lambda: is_on(prime, None, None), lambda: meet(prime, None, None), lambda: join(prime, None, None),
                         lambda: next(each_line(prime))):
                self.assert_raises(InvalidNumber(prime), call)


class LineOfTest(Checks, unittest.TestCase):
    def test_line_of(self):
        self.assert_same(line_of(0, (0, -6, 4)), (0, 3, -2))
        self.assert_same(line_of(0, (GREAT, -GREAT, 0)), (1, -1, 0))
        self.assert_same(line_of(0, (2000, -2, 4)), (1000, -1, 2))
        self.assert_same(line_of(0, (-1, 1000, -1000)), (1, -1000, 1000))
        for prime in PRIMES:
            for numbers in itertools.product(range(prime), repeat=3):
                if any(numbers):
                    told = line_of(prime, numbers)
                    self.assertIn(told, plain_triples(prime))
                    self.assertTrue(any(tuple(k * number % prime for number in told) == numbers for k in range(prime)))

    def test_errors(self):
        for value in (None, 1, True, "xyz", [1, 0, 0], (), (1, 0), (1, 0, 0, 0), (0, 0, 0), (True, 0, 0), (1, 0, None), (10 ** 60, 1, 0),
                      {}, ((1, 0, 0),), (1, 1001, 0), (2002, -2, 0), (1, 0, -1001)):
            self.assert_raises(InvalidLine, line_of, 0, value)
        for value in ((5, 0, 1), (-1, 0, 0), (0, 0, 0)):
            self.assert_raises(InvalidLine, line_of, 5, value)


class MeetTest(Checks, unittest.TestCase):
    def test_over_primes(self):
        for prime in (2, 3, 5):
            triples = plain_triples(prime)
            for line in triples:
                on = [point for point in triples if is_on(prime, point, line)]
                self.assertEqual(len(on), prime + 1)
                self.assertEqual(on, [point for point in triples if sum(a * b for a, b in zip(point, line)) % prime == 0])
            for one, other in itertools.permutations(triples[:13], 2):
                told = meet(prime, one, other)
                self.assertEqual([point for point in triples if is_on(prime, point, one) and is_on(prime, point, other)], [told])
                self.assert_same(join(prime, one, other), told)

    def test_over_fractions(self):
        source = random.Random(31)
        lines = sorted(set(some_triples(source, 12, 5) + some_triples(source, 8, 1000)))
        for one, other in itertools.permutations(lines, 2):
            told = meet(0, one, other)
            self.assertIs(is_point(0, told), True)
            self.assertTrue(is_on(0, told, one) and is_on(0, told, other))
            self.assert_same(join(0, one, other), told)

    def test_great_integers(self):
        told = meet(0, (1000, 999, -1), (1, -1000, 1000))
        self.assertEqual(told, (998000, -1000001, -1000999))
        one, other = (GREAT, 1, 0), (0, GREAT, 1)
        self.assert_same(join(0, one, other), (1, -GREAT, GREAT * GREAT))
        self.assertIs(is_on(0, one, (1, 0, 0)), False)
        self.assertIs(is_on(0, (0, GREAT, 1), (1, 0, 0)), True)
        self.assertIs(is_point(0, join(0, one, other)), False)

    def test_errors(self):
        line, point, great = (1, 0, 0), (0, 1, 0), (1, 1001, 0)
        for value in NO_TRIPLES:
            self.assert_raises(InvalidPoint, is_on, 0, value, None)
            self.assert_raises(InvalidLine, is_on, 0, point, value)
            self.assert_raises(InvalidLine, meet, 0, value, line)
            self.assert_raises(InvalidLine, meet, 0, line, value)
            self.assert_raises(InvalidPoint, join, 0, value, point)
            self.assert_raises(InvalidPoint, join, 0, point, value)
        self.assert_raises(InvalidLine, meet, 0, great, line)
        self.assert_raises(InvalidLine, meet, 0, great, great)
        self.assert_raises(InvalidLine, is_on, 0, great, great)
        self.assert_same(join(0, great, point), (0, 0, 1))
        self.assert_raises(Refused(("same",)), meet, 0, line, line)
        self.assert_raises(Refused(("same",)), join, 0, great, great)
        self.assert_raises(InvalidLine, meet, 3, (1, 3, 0), (1, 0, 0))
        self.assert_raises(InvalidPoint, join, 3, (1, 0, 0), (1, -1, 0))


class EachLineTest(Checks, unittest.TestCase):
    def test_all_lines(self):
        for prime in PRIMES:
            self.assert_same(list(each_line(prime)), plain_triples(prime))

    def test_errors(self):
        for prime in (11, 13, 17, 19):
            made = each_line(prime)
            self.assert_raises(TooMany(7), next, made)
        self.assert_raises(InvalidOperation, next, each_line(0))
        made = each_line(4)
        self.assert_raises(InvalidNumber(4), next, made)


if __name__ == "__main__":
    unittest.main()
