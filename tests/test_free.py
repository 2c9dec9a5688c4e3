"""Free lots: [0.14], [0.17], [0.18], [0.20], [0.21], [4.3] to [4.6], [8.4], [10.1] to [10.5] and their functions."""

import itertools
import random
import unittest
from math import gcd

from support import Checks, wrong_values
from test_forms import some_form
from test_lines import plain_triples, some_triples
from test_lots import BRAID, FIVE, GENERAL, PENCIL, X, Z
from test_primes import FAN, PLUS
from test_rows import HUGE, TRI, degree_of, number3, plus, powers, read, row, some_lots, some_mix, times, zeros
from tangentrows.errors import InvalidLot, InvalidNumber, InvalidOperation, InvalidRow, Refused, TooMany
from tangentrows.form.forms import Form
from tangentrows.form.products import determinant_of, is_multiple
from tangentrows.free import free as module
from tangentrows.free.free import (are_free_rows, degrees_of, free_rows, is_free, number_of_rows, reduced_rows, row_made, told_by_rows)
from tangentrows.plane.lots import Lot
from tangentrows.plane.primes import all_lines, bad_primes, count_off, keeps_points, reduced
from tangentrows.press.pairs import degrees_on, gap
from tangentrows.row.rows import count_killing, count_rows, is_tangent, least_degree, plain, rows_of

FANO = all_lines(2)
TWO = (powers(2), powers(3))
CUBES = Lot(7, ((0, 1, 3), (0, 1, 5), (0, 1, 6), (1, 0, 3), (1, 0, 5), (1, 0, 6), (1, 3, 0), (1, 5, 0), (1, 6, 0)))


def terms(degree):
    return (degree + 1) * (degree + 2) // 2 if degree >= 0 else 0


def degrees_by_counts(lot):
    """The degrees by [8.4], or None: whether all numbers E(k) are those of a free lot."""
    found = [count_killing(lot, k) for k in range(8)]
    for low in range(lot.many // 2 + 1):
        high = lot.many - 1 - low
        if low <= high and found == [terms(k - low) + terms(k - high) for k in range(8)]:
            return low, high
    return None


def many_lots():
    yield from some_lots()
    source = random.Random(131)
    for prime in (2, 3, 5, 7):
        for many in (3, 4, 5, 6, 7):
            yield Lot(prime, tuple(source.sample(plain_triples(prime), many)))
    yield from (FANO, Lot(0, BRAID.lines[1:]), Lot(0, PLUS.lines[1:]), Lot(0, GENERAL[:4]), Lot(0, PENCIL[:3] + (Z,)))


def free_lots():
    return [lot for lot in many_lots() if is_free(lot)]


class FreeTest(Checks, unittest.TestCase):
    def test_constant(self):
        self.assert_same(module.MOST_LINES, 7)

    def test_by_counts(self):
        told = {True: 0, False: 0}
        for lot in many_lots():
            found = degrees_by_counts(lot)
            self.assert_same(degrees_of(lot), found)
            self.assertIs(is_free(lot), found is not None)
            told[found is not None] += 1
            if found:
                self.assertEqual([sum(found), found[0] * found[1]], [lot.many - 1, lot.rest])
        self.assertTrue(min(told.values()) > 5)

    def test_small_lots(self):
        source = random.Random(132)
        for prime in (2, 3, 5, 7):
            for many in (1, 2, 3):
                for _ in range(5):
                    self.assertIs(is_free(Lot(prime, tuple(source.sample(plain_triples(prime), many)))), True)
            for _ in range(12):
                lot = Lot(prime, tuple(source.sample(plain_triples(prime), 4)))
                general = max(lot.number_at(point) for point in lot.points) == 2
                self.assertIs(is_free(lot), not general)
        for many in (1, 2, 3):
            self.assertIs(is_free(Lot(0, GENERAL[:many])), True)
        self.assertEqual([is_free(Lot(0, GENERAL[:4])), is_free(Lot(0, PENCIL[:3] + (Z,)))], [False, True])
        for many in range(1, 14):
            self.assertEqual(degrees_of(Lot(0, PENCIL[:many])), (0, many - 1))

    def test_great_lots(self):
        source = random.Random(133)
        self.assertEqual([degrees_of(all_lines(2)), degrees_of(all_lines(3)), degrees_of(CUBES)], [(2, 4), (3, 9), (4, 4)])
        self.assertEqual([degrees_of(Lot(0, GENERAL[:13])), degrees_of(Lot(0, tuple(some_triples(source, 13, 1000))))], [None, None])
        near = Lot(0, PENCIL[:12] + (Z,))
        self.assertEqual(degrees_of(near), (1, 11))

    def test_errors(self):
        for value in wrong_values():
            if not isinstance(value, Lot):
                for call in (lambda: is_free(value), lambda: degrees_of(value), lambda: free_rows(value), lambda: are_free_rows(value, None),
                             lambda: number_of_rows(value, None), lambda: told_by_rows(value, None, None),
                             lambda: row_made(value, None, None), lambda: reduced_rows(value, None, None)):
                    self.assert_raises(InvalidLot, call)

    def test_the_least_degree_and_the_rest(self):
        for lot in many_lots():
            r, n, c = least_degree(lot), lot.many, lot.rest
            self.assertGreaterEqual(c, r * (n - 1 - r))
            # A bundle of one line is its own case: r is 0, and so is the rest.
            self.assertEqual(c == r * (n - 1 - r), is_free(lot))
            if 2 * r >= n:
                self.assertGreaterEqual(c, r * (n - 1 - r) + (2 * r - n + 1) * (2 * r - n + 2) // 2)

    def test_the_pressed_degrees_of_free_lots(self):
        for lot in many_lots():
            for line in (X, Z, (1, 1, 0), (0, 1, 1), (1, 0, 1), (1, 1, 1)):
                self.assertEqual(gap(lot, line) == 0, is_free(lot))
                if is_free(lot):
                    self.assertEqual(degrees_on(lot, line), degrees_of(lot))

    def test_what_is_not_true(self):
        # [0.21]: a part of a free lot need not be free, whole degrees do not suffice, and lines cannot just be taken.
        self.assertEqual([is_free(PLUS), is_free(PLUS.without_line(X)), PLUS.without_line(X).many], [True, False, 6])
        self.assertEqual([FAN.factors, is_free(FAN)], [(1, -6, 9), False])
        self.assertIs(is_free(CUBES), True)
        self.assertEqual([is_free(CUBES.without_line(line)) for line in CUBES.lines], [False] * 9)
        # No point of PLUS is joined to all others.
        for point in PLUS.points:
            joined = {other for line in PLUS.lines_at(point) for other in PLUS.points_on(line)}
            self.assertNotEqual(joined, set(PLUS.points))


class PrimesTest(Checks, unittest.TestCase):
    def some_over_fractions(self):
        source = random.Random(134)
        yield from (BRAID, FIVE, FAN, PLUS, TRI, Lot(0, PENCIL[:5]), Lot(0, GENERAL[:6]), Lot(0, PENCIL[:4] + (Z,)))
        yield Lot(0, tuple(some_triples(source, 5, 3)))

    def test_modulo_primes(self):
        for lot in self.some_over_fractions():
            for prime in (2, 3, 5, 7, 11, 19):
                if len({tuple(n % prime for n in line) for line in lot.lines}) < lot.many:
                    continue
                try:
                    less = reduced(lot, prime)
                except Refused:
                    continue
                for degree in range(6):
                    self.assertGreaterEqual(count_rows(less, degree), count_rows(lot, degree))
                if keeps_points(lot, prime) and is_free(less):
                    self.assertEqual(degrees_of(lot), degrees_of(less))
        self.assertTrue(all(is_free(reduced(BRAID, prime)) for prime in (2, 3, 5, 7, 11)))

    def test_what_is_not_true(self):
        # [4.6]: the reduced lot of FIVE is free modulo 2, where its points do not stay unlike.
        self.assertEqual([degrees_of(reduced(FIVE, 2)), degrees_of(FIVE), bad_primes(FIVE)], [(2, 2), None, (2, 3)])
        self.assertEqual([degrees_of(reduced(PLUS, 2)), degrees_of(PLUS)], [(2, 4), (3, 3)])

    def test_points_off_free_lots(self):
        for lot in free_lots():
            if lot.prime:
                low, high = degrees_of(lot)
                self.assertEqual(count_off(lot), (lot.prime - low) * (lot.prime - high))

    def test_all_lines(self):
        for prime in (2, 3):
            self.assertEqual(degrees_of(all_lines(prime)), (prime, prime * prime))
            one, other = (tuple(read(letter, prime).power(prime ** k) for letter in "xyz") for k in (1, 2))
            self.assertIs(are_free_rows(all_lines(prime), (one, other)), True)


class RowsTest(Checks, unittest.TestCase):
    def test_free_rows(self):
        for lot in free_lots():
            told = free_rows(lot)
            self.assertIs(type(told), tuple)
            self.assertEqual(tuple(degree_of(one) for one in told), degrees_of(lot))
            self.assertTrue(all(is_tangent(lot, one) for one in told))
            self.assertIs(is_multiple(determinant_of((plain(lot.prime), *told)), lot.product), True)
            self.assertIs(are_free_rows(lot, told), True)
            self.assertIs(are_free_rows(lot, told[::-1]), True)
            self.assertTrue(all(abs(number) < 10 ** 4000 for one in told for form in one for _, number in form))

    def test_errors_of_free_rows(self):
        for lot in many_lots():
            if not is_free(lot):
                self.assert_raises(Refused(("not free",)), free_rows, lot)
        for lot in (Lot(0, PENCIL[:8]), Lot(0, GENERAL[:8]), CUBES, all_lines(3)):
            self.assert_raises(TooMany(7), free_rows, lot)
        self.assertIs(are_free_rows(PLUS, free_rows(PLUS)), True)
        self.assertIs(are_free_rows(Lot(0, PENCIL[:7]), free_rows(Lot(0, PENCIL[:7]))), True)

    def test_other_free_rows(self):
        source = random.Random(135)
        for lot in free_lots():
            prime, (low, high) = lot.prime, degrees_of(lot)
            one, other = free_rows(lot)
            great = number3(prime, HUGE if prime == 0 else 1)
            changed = plus(plus(times(other, great), times(one, some_form(source, prime, 3, high - low))),
                           times(plain(prime), some_form(source, prime, 3, high - 1)) if high else zeros(prime))
            first = plus(times(one, great), times(plain(prime), some_form(source, prime, 3, low - 1))) if low else one
            for value in ((one, changed), (changed, one), (first, changed) if low != high else (first, other), (times(one, great), other)):
                self.assertIs(are_free_rows(lot, value), True)
            x = read("x", prime)
            for value in ((one, one), (one, times(one, some_form(source, prime, 3, high - low))), (one, zeros(prime)), (zeros(prime), other),
                          (zeros(prime), zeros(prime)), (one, times(other, x)), (times(one, x), other), (one,), (one, other, one),
                          [one, other], (one, None), (one, list(other)), None, one, (plain(prime), one), (plain(prime), other),
                          (one, times(plain(prime), some_form(source, prime, 3, high - 1)) if high else zeros(prime))):
                self.assertIs(are_free_rows(lot, value), False)

    def test_great_lots(self):
        bundle = Lot(0, PENCIL)
        one = row("0", "0", "1")
        self.assertIs(are_free_rows(bundle, (one, zeros(0))), False)
        product = bundle.product
        # (x, y) times a form is the plain row but for its third form; so the last row is told by the slopes.
        last = (product.slope("y"), -product.slope("x"), read("0"))
        self.assertIs(are_free_rows(bundle, (one, last)), True)
        self.assertIs(are_free_rows(bundle, (last, one)), True)
        self.assertIs(are_free_rows(FIVE, TWO), False)
        self.assertIs(are_free_rows(BRAID, (powers(2), powers(40))), False)
        self.assertIs(are_free_rows(BRAID, (powers(40), powers(40))), False)
        for value in wrong_values():
            self.assertIs(are_free_rows(BRAID, value), False)

    def test_what_is_not_true(self):
        # [10.5]: the degrees alone do not suffice, nor that neither row is a multiple of the other one.
        self.assertIs(are_free_rows(BRAID, (powers(2), times(powers(2), read("x + y")))), False)
        value = (powers(2), times(plain(0), read("xy")))
        self.assertTrue(all(is_tangent(BRAID, one) for one in value))
        self.assertEqual([degree_of(one) for one in value], [2, 3])
        self.assertIs(are_free_rows(BRAID, value), False)

    def test_numbers(self):
        for lot in free_lots():
            prime, two = lot.prime, free_rows(lot)
            number = number_of_rows(lot, two)
            self.assertTrue(type(number) is int and number and (not prime or 0 < number < prime))
            whole = determinant_of((plain(prime), *two))
            self.assertEqual(lot.product * number3(prime, number), whole)
            turned = number_of_rows(lot, two[::-1])
            self.assert_same(turned, -number % prime if prime else -number)
        self.assert_same(number_of_rows(BRAID, (times(TWO[0], number3(0, HUGE)), TWO[1])), -HUGE)
        self.assert_same(number_of_rows(BRAID, (TWO[1], times(TWO[0], read("-3")))), -3)

    def test_errors_of_two(self):
        wrong = (*wrong_values(), (powers(2), powers(4)), (powers(2),), list(TWO), (*TWO, powers(4)), (powers(2), zeros(0)),
                 (powers(2, 5), powers(3, 5)), (powers(2), times(powers(2), read("x"))), powers(2))
        for value in wrong:
            self.assert_raises(InvalidOperation, number_of_rows, BRAID, value)
            self.assert_raises(InvalidOperation, told_by_rows, BRAID, value, None)
            self.assert_raises(InvalidOperation, row_made, BRAID, value, None)
            self.assert_raises(InvalidOperation, reduced_rows, BRAID, value, None)
        self.assert_raises(InvalidOperation, number_of_rows, FIVE, TWO)


class ToldTest(Checks, unittest.TestCase):
    def check(self, lot, two, value):
        told = told_by_rows(lot, two, value)
        self.assertTrue(type(told) is tuple and len(told) == 4)
        q, u, v, scale = told
        self.assertTrue(type(scale) is int and scale >= 1 and (lot.prime == 0 or scale == 1))
        made = plus(plus(times(plain(lot.prime), q), times(two[0], u)), times(two[1], v))
        self.assertEqual(made, times(value, number3(lot.prime, scale)))
        self.assertEqual(row_made(lot, two, (q, u, v)), made)
        self.assertEqual(gcd(scale, *[number for form in (q, u, v) for _, number in form]), 1)
        self.assertEqual([[form.prime, form.letters] for form in (q, u, v)], [[lot.prime, 3]] * 3)
        return scale

    def test_told(self):
        source = random.Random(136)
        for lot in free_lots():
            two = free_rows(lot)
            for degree in (0, 1, degrees_of(lot)[0], degrees_of(lot)[1], 5):
                value = some_mix(source, lot, degree)
                self.check(lot, two, value)
                self.check(lot, two[::-1], value)
                if lot.prime == 0 and any(value):
                    changed = (times(two[0], read("6")), times(two[1], read("-10")))
                    self.check(lot, changed, value)
            self.check(lot, two, plain(lot.prime))
            self.check(lot, two, two[0])

    def test_scales(self):
        changed = (times(TWO[0], read("6")), times(TWO[1], read("-10")))
        self.assertEqual([self.check(BRAID, TWO, powers(k)) for k in (1, 2, 3, 4)], [1, 1, 1, 1])
        self.assertEqual([self.check(BRAID, changed, powers(k)) for k in (1, 2, 3, 4)], [1, 6, 10, 30])
        self.assertEqual(self.check(BRAID, changed, times(powers(2), read("4"))), 3)
        great = (times(TWO[0], number3(0, HUGE)), TWO[1])
        self.assertEqual([self.check(BRAID, great, powers(2)), self.check(BRAID, great, powers(3))], [HUGE, 1])
        for two in (TWO, changed, great):
            q, u, v, scale = told_by_rows(BRAID, two, zeros(0))
            self.assertEqual([q, u, v], [Form(0, 3)] * 3)
            self.assert_same(scale, 1)
        mixed = (TWO[0], plus(TWO[1], times(plain(0), read("x^2 + yz"))))
        self.assertEqual(self.check(BRAID, mixed, powers(5)), 1)

    def test_errors(self):
        for value in (*wrong_values(), powers(2)[:2], list(powers(2)), powers(2, 5), (read("x"), read("y^2"), read("z"))):
            if not isinstance(value, tuple) or len(value) != 3 or value[0] != read("x") or value[1]:
                self.assert_raises(InvalidRow, told_by_rows, BRAID, TWO, value)
        for value, line in ((row("x", "0", "0"), (1, -1, 0)), (row("y", "x", "z"), (0, 1, -1)), (row("0", "0", "1"), Z),
                            (row("x^40", "0", "0"), (1, -1, 0)), (row("1", "1", "1"), Z), (row("0", "x", "0"), (0, 1, -1))):
            self.assert_raises(Refused(("line", line)), told_by_rows, BRAID, TWO, value)

    def test_the_degree(self):
        self.check(BRAID, TWO, powers(34))
        self.assert_raises(TooMany(40), told_by_rows, BRAID, TWO, powers(35))
        self.assert_raises(TooMany(40), told_by_rows, BRAID, TWO, powers(40))
        line = Lot(0, (X,))
        two = free_rows(line)
        self.check(line, two, row("x^39", "y^39", "x^30z^9"))
        self.assert_raises(TooMany(40), told_by_rows, line, two, row("x^40", "0", "0"))

    def test_row_made(self):
        zero = Form(0, 3)
        self.assertEqual(row_made(BRAID, TWO, (zero, zero, zero)), zeros(0))
        self.assertEqual(row_made(BRAID, TWO, (read("x"), read("1"), zero)), plus(times(plain(0), read("x")), powers(2)))
        self.assertEqual(row_made(BRAID, TWO[::-1], (zero, read("1"), read("x"))), plus(powers(3), times(powers(2), read("x"))))
        self.assertEqual(degree_of(row_made(BRAID, TWO, (read("x^39"), read("x^38"), read("y^37")))), 40)
        for parts in ((read("x"), read("x"), zero), (read("1"), read("1"), zero), (zero, read("1"), read("1")), None, 1, (), [zero] * 3,
                      (zero, zero), (zero,) * 4, (zero, zero, None), (zero, zero, 1), (zero, zero, Form(5, 3)), (zero, zero, Form(0, 2)),
                      (read("x^40"), read("x^40"), zero), zero, "xyz"):
            self.assert_raises(InvalidOperation, row_made, BRAID, TWO, parts)
        for parts in ((read("x^40"), zero, zero), (zero, read("x^39"), zero), (zero, zero, read("x^38")), (read("x^40"), read("x^39"), zero)):
            self.assert_raises(TooMany(40), row_made, BRAID, TWO, parts)
        self.assertEqual(row_made(BRAID, TWO, (zero, zero, read("x^37"))), times(powers(3), read("x^37")))


class ReducedTest(Checks, unittest.TestCase):
    def test_reduced_rows(self):
        for lot in (BRAID, PLUS, TRI, Lot(0, PENCIL[:5]), Lot(0, (X,)), Lot(0, PENCIL[:4] + (Z,))):
            two = free_rows(lot)
            number = number_of_rows(lot, two)
            for prime in (2, 3, 5, 7, 11, 13, 17, 19):
                try:
                    less = reduced(lot, prime)
                except Refused as error:
                    self.assert_raises(Refused(error.reason), reduced_rows, lot, two, prime)
                    continue
                if number % prime == 0:
                    self.assert_raises(Refused(("number", number)), reduced_rows, lot, two, prime)
                    continue
                told = reduced_rows(lot, two, prime)
                self.assertIs(are_free_rows(less, told), True)
                for one, other in zip(two, told):
                    for form, image in zip(one, other):
                        self.assertEqual(image.table, {place: n % prime for place, n in form.table.items() if n % prime})
                        self.assertEqual([image.prime, image.letters], [prime, 3])

    def test_errors(self):
        for prime in (*wrong_values(), 0, 4, 23, 10 ** 60):
            if prime not in (2, 3, 5) or prime is True:
                self.assert_raises(InvalidNumber(prime), reduced_rows, BRAID, TWO, prime)
                self.assert_raises(InvalidNumber(prime), reduced_rows, FANO, free_rows(FANO), prime)
        self.assert_raises(InvalidOperation, reduced_rows, FANO, free_rows(FANO), 2)
        changed = (times(TWO[0], number3(0, 15 * HUGE)), TWO[1])
        for prime in (3, 5, 7):
            self.assert_raises(Refused(("number", -15 * HUGE)), reduced_rows, BRAID, changed, prime)
        self.assertIs(are_free_rows(reduced(BRAID, 19), reduced_rows(BRAID, changed, 19)), True)
        pencil = Lot(0, PENCIL[:7])
        self.assert_raises(Refused(("fall", (1, -6, 0), (1, -1, 0))), reduced_rows, pencil, free_rows(pencil), 5)
        two = times(free_rows(pencil)[0], read("5")), free_rows(pencil)[1]
        self.assert_raises(Refused(("fall", (1, -6, 0), (1, -1, 0))), reduced_rows, pencil, two, 5)

    def test_values_stay(self):
        texts = [str(form) for one in TWO for form in one]
        for call in (lambda: are_free_rows(BRAID, TWO), lambda: number_of_rows(BRAID, TWO), lambda: told_by_rows(BRAID, TWO, powers(4)),
                     lambda: row_made(BRAID, TWO, (read("x"), read("1"), read("0"))), lambda: reduced_rows(BRAID, TWO, 5)):
            call()
            self.assertEqual([str(form) for one in TWO for form in one], texts)
            self.assertEqual(BRAID, Lot(0, BRAID.lines))
        self.assertEqual(len(list(itertools.chain(*rows_of(BRAID, 2)))), 12)


if __name__ == "__main__":
    unittest.main()
