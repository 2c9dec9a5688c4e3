"""Tables: [1.3] to [1.5] and the functions of their module."""

import itertools
import random
import unittest
from fractions import Fraction
from math import gcd, lcm

from support import Checks, wrong_values
from tangentrows.base import tables as module
from tangentrows.base.tables import determinant, echelon, is_mix, kernel, rank, sent, undone
from tangentrows.errors import InvalidNumber, InvalidOperation, InvalidTable, Refused

GREAT = 10 ** 60 - 1
ONE = ((1,),)
FUNCTIONS = (rank, echelon, lambda prime, table: is_mix(prime, table, None), kernel,
             lambda prime, table: sent(prime, table, None), determinant, undone)


def inverse_of(prime, number):
    return 1 / number if prime == 0 else pow(int(number), -1, prime)


def plain_echelon(prime, rows):
    """The echelon by the rules of schools, with fractions over 0: an independent way."""
    rows = [[Fraction(number) if prime == 0 else number for number in row] for row in rows]
    done = 0
    for at in range(len(rows[0]) if rows else 0):
        found = [k for k in range(done, len(rows)) if rows[k][at] != 0]
        if not found:
            continue
        rows[done], rows[found[0]] = rows[found[0]], rows[done]
        times = inverse_of(prime, rows[done][at])
        rows[done] = [number * times % prime if prime else number * times for number in rows[done]]
        for k in range(len(rows)):
            if k != done and rows[k][at] != 0:
                much = rows[k][at]
                rows[k] = [a - much * b for a, b in zip(rows[k], rows[done])]
                rows[k] = [number % prime for number in rows[k]] if prime else rows[k]
        done += 1
    told = []
    for row in rows[:done]:
        if prime == 0:
            whole = lcm(*[number.denominator for number in row])
            row = [int(number * whole) for number in row]
            row = [number // gcd(*row) for number in row]
        told.append(tuple(row))
    return tuple(told)


def plain_determinant(rows):
    total = 0
    for order in itertools.permutations(range(len(rows))):
        part = 1
        for row, column in enumerate(order):
            part *= rows[row][column]
        swaps = sum(order[i] > order[j] for i in range(len(order)) for j in range(i + 1, len(order)))
        total += part * (-1) ** swaps
    return total


def some_tables(prime, seed, many):
    """Tables of all shapes, many of them with dependent rows."""
    source = random.Random(seed)
    for _ in range(many):
        height, width = source.randint(1, 7), source.randint(1, 8)
        low, high = (0, prime - 1) if prime else (-source.choice((1, 3, 50)), source.choice((1, 3, 50)))
        rows = [[source.randint(low, high) for _ in range(width)] for _ in range(height)]
        for row in range(1, height):
            if source.random() < 0.4:
                one, two = source.randrange(row), source.randrange(row)
                rows[row] = [2 * a - b for a, b in zip(rows[one], rows[two])]
                rows[row] = [number % prime for number in rows[row]] if prime else rows[row]
        yield tuple(tuple(row) for row in rows)


class TablesTest(Checks, unittest.TestCase):
    def test_constants(self):
        self.assert_same((module.MAX_ROWS, module.MAX_WIDTH), (90, 140))

    def test_echelon_and_rank(self):
        for prime in (0, 2, 3, 7, 19):
            for table in some_tables(prime, 10 + prime, 120):
                told = plain_echelon(prime, table)
                self.assert_same(echelon(prime, table), told)
                self.assert_same(rank(prime, table), len(told))

    def test_kernel(self):
        for prime in (0, 2, 3, 7, 19):
            for table in some_tables(prime, 20 + prime, 120):
                told = kernel(prime, table)
                self.assertEqual(len(told), len(table[0]) - rank(prime, table))
                self.assert_same(told, plain_echelon(prime, told))
                for numbers in told:
                    self.assertFalse(any(sent(prime, table, numbers)))

    def test_is_mix(self):
        for prime in (0, 2, 5):
            for table in some_tables(prime, 30 + prime, 80):
                for value in [table[0], tuple(a + b if prime == 0 else (a + b) % prime
                                              for a, b in zip(table[0], table[-1])), (0,) * len(table[0])]:
                    self.assertIs(is_mix(prime, table, value), True)
                for at in range(len(table[0])):
                    value = (0,) * at + (1,) + (0,) * (len(table[0]) - at - 1)
                    self.assertIs(is_mix(prime, table, value), rank(prime, table) == rank(prime, table + (value,)))

    def test_is_mix_with_fractions_only(self):
        self.assertIs(is_mix(0, ((2, 4), (0, 0)), (1, 2)), True)
        self.assertIs(is_mix(0, ((2, 4), (0, 0)), (1, 3)), False)
        self.assertIs(is_mix(0, ((GREAT, 0, GREAT), (0, GREAT, 1)), (1, GREAT, 2)), True)

    def test_is_mix_of_no_tuple_of_numbers(self):
        table = ((1, 0), (0, 1))
        for value in (None, 1, "ab", [1, 0], (1,), (1, 0, 0), (True, 0), (1, None), (10 ** 60, 0), {}, ((1, 0),)):
            self.assertIs(is_mix(0, table, value), False)
        for value in ((5, 0), (-1, 0), (0, True), (1,)):
            self.assertIs(is_mix(5, table, value), False)
        self.assertIs(is_mix(5, table, (4, 0)), True)

    def test_zeros(self):
        for prime in (0, 3):
            self.assert_same([rank(prime, ((0, 0),)), echelon(prime, ((0, 0), (0, 0)))], [0, ()])
            self.assert_same(kernel(prime, ((0, 0),)), ((1, 0), (0, 1)))
            self.assert_same(kernel(prime, ((1, 0), (1, 1))), ())

    def test_great_integers(self):
        table = ((GREAT, 1, 0), (1, GREAT, 1))
        told = echelon(0, table)
        self.assertEqual(told, plain_echelon(0, table))
        self.assertGreater(told[0][0], 10 ** 100)
        self.assert_same(kernel(0, table), ((1, -GREAT, GREAT * GREAT - 1),))
        self.assert_same(sent(0, table, (GREAT, -GREAT, 0)), (GREAT * GREAT - GREAT, GREAT - GREAT * GREAT))
        self.assertEqual(determinant(0, ((GREAT,) * 2, (1, -GREAT))), -GREAT * GREAT - GREAT)

    def test_the_greatest_table(self):
        source = random.Random(5)
        for prime in (0, 19):
            rows = tuple(tuple(source.randint(0, 1) for _ in range(140)) for _ in range(90))
            self.assertEqual(rank(prime, rows), 90)
            self.assertEqual(len(kernel(prime, rows)), 50)
        self.assertEqual(rank(0, ((1,) * 140,) * 90), 1)

    def test_sent(self):
        for prime in (0, 2, 5, 19):
            for table in some_tables(prime, 40 + prime, 30):
                numbers = tuple((3 * at + 1) % (prime or 7) for at in range(len(table[0])))
                told = tuple(sum(row[at] * numbers[at] for at in range(len(numbers))) for row in table)
                self.assert_same(sent(prime, table, numbers), tuple(k % prime for k in told) if prime else told)

    def test_sent_errors(self):
        table = ((1, 2), (3, 4))
        for value in (None, 1, "ab", [1, 0], (), (1,), (1, 0, 0), (True, 0), (1, None), (10 ** 60, 0), {}):
            self.assert_raises(InvalidOperation, sent, 0, table, value)
        self.assert_raises(InvalidOperation, sent, 5, table, (5, 0))
        self.assert_raises(InvalidTable, sent, 3, table, (5, 0))
        self.assert_raises(InvalidNumber(4), sent, 4, None, None)

    def test_determinant(self):
        source = random.Random(7)
        for prime in (0, 2, 3, 19):
            for size in range(1, 7):
                for _ in range(6):
                    low, high = (0, prime - 1) if prime else (-9, 9)
                    table = tuple(tuple(source.randint(low, high) for _ in range(size)) for _ in range(size))
                    told = plain_determinant(table)
                    self.assert_same(determinant(prime, table), told % prime if prime else told)

    def test_determinant_errors(self):
        seven = tuple(tuple(int(row == at) for at in range(7)) for row in range(7))
        for table in (seven, ((1, 2),), ((1,), (2,)), ((1, 2, 3), (4, 5, 6)), ((1, 2), (3, 4), (5, 6))):
            self.assertGreater(rank(0, table), 0)
            self.assert_raises(InvalidTable, determinant, 0, table)
        self.assertEqual(determinant(0, tuple(row[:6] for row in seven[:6])), 1)

    def test_undone(self):
        source = random.Random(8)
        for prime in (0, 2, 3, 19):
            for size in (2, 3):
                for _ in range(40):
                    low, high = (0, prime - 1) if prime else (-9, 9)
                    table = tuple(tuple(source.randint(low, high) for _ in range(size)) for _ in range(size))
                    if determinant(prime, table) == 0:
                        self.assert_raises(Refused(("flat",)), undone, prime, table)
                        continue
                    back = undone(prime, table)
                    flat = [number for row in back for number in row]
                    self.assertEqual(plain_echelon(prime, [flat])[0], tuple(flat))
                    made = [sent(prime, back, sent(prime, table, tuple(int(at == k) for at in range(size))))
                            for k in range(size)]
                    times = made[0][0]
                    self.assertNotEqual(times, 0)
                    self.assertEqual(made, [tuple(times * int(at == k) for at in range(size)) for k in range(size)])

    def test_undone_errors(self):
        for table in (ONE, ((1, 0, 0, 0), (0, 1, 0, 0), (0, 0, 1, 0), (0, 0, 0, 1)), ((1, 2, 3), (4, 5, 6)), ((1, 0),)):
            self.assertTrue(rank(0, table))
            self.assert_raises(InvalidTable, undone, 0, table)
        self.assert_raises(Refused(("flat",)), undone, 0, ((0, 0), (0, 0)))
        self.assert_raises(Refused(("flat",)), undone, 3, ((1, 2, 0), (2, 1, 0), (0, 0, 1)))
        self.assert_raises(InvalidTable, undone, 2, ((1, 2), (2, 4)))

    def test_wrong_tables(self):
        tables = [None, 1, "ab", (), [], {}, ((),), ((), ()), [(1, 2)], ([1, 2],), ((1, 2), [3, 4]), ((1, 2), (3,)),
                  ((True, 1),), ((1, None),), ((10 ** 60,),), ((-10 ** 60, 1),), ((1,),) * 91, ((1,) * 141,), (1, 2),
                  ((1, 2), 3), ({1: 2},), (("a",),), (((1,),),)]
        for call in FUNCTIONS:
            for table in tables:
                self.assert_raises(InvalidTable, call, 0, table)
                self.assert_raises(InvalidNumber(9), call, 9, table)
            for table in (((5,),), ((-1, 0), (0, 1)), ((1, 6), (0, 1))):
                self.assert_raises(InvalidTable, call, 5, table)
            for prime in wrong_values():
                self.assert_raises(InvalidNumber(prime), call, prime, ONE)
        self.assertEqual([rank(0, ((1,),) * 90), rank(0, ((1,) * 140,)), rank(0, ((GREAT, -GREAT),))], [1, 1, 1])


if __name__ == "__main__":
    unittest.main()
