"""Pairs that are tangent to marks: [5.2] to [5.5] and their functions."""

import itertools
import random
import unittest
from math import gcd

from support import Checks, outcome, wrong_values
from test_forms import plain_product, some_form
from test_marks import FAR, GREAT, X, Y, some_marks, some_spots
from tangentrows.base.tables import echelon_of
from tangentrows.errors import InvalidMarks, InvalidNumber, InvalidPair, TooMany
from tangentrows.form.forms import Form
from tangentrows.form.products import linear
from tangentrows.mark import pairs as module
from tangentrows.mark.marks import Marks
from tangentrows.mark.pairs import are_two, count_pairs, degrees, is_pair, pairs_of, told_by, two_pairs

EVEN = Marks(0, {X: 3, Y: 3, (1, 1): 1, (1, -1): 1})
HUGE = GREAT * GREAT * 7


def read(text, prime=0):
    return Form.read(prime, 2, text)


def pair(one, other, prime=0):
    return read(one, prime), read(other, prime)


def degree_of(value):
    """The degree of a pair, None for zeros."""
    return max([form.degree for form in value if form], default=None)


def determinant(one, other):
    return one[0] * other[1] - other[0] * one[1]


def times(value, factor):
    """The pair, multiplied by a form."""
    return value[0] * factor, value[1] * factor


def plus(one, other):
    return one[0] + other[0], one[1] + other[1]


def constant(prime, number):
    """The form of the degree 0 with a number of any size."""
    one, whole = Form(prime, 2, {(0, 0): 1}), Form(prime, 2)
    if prime:
        return one * (number % prime)
    for digit in str(abs(number)):
        whole = whole * 10 + one * int(digit)
    return whole if number > 0 else -whole


def flat(value, degree):
    """The numbers of a pair of a degree, as [5.3] tells their order."""
    return tuple(form[(degree - at, at)] for form in value for at in range(degree + 1))


def is_plainly_tangent(marks, value):
    """Tangent by multiplying: whether the sums are among all multiples, for small primes and degrees."""
    prime = marks.prime
    for (a, b), count in marks.counts.items():
        total = value[0] * a + value[1] * b
        if not total:
            continue
        step = linear(prime, (a, b)).power(count).table
        size = total.degree - count
        tables = itertools.product(range(prime), repeat=size + 1) if size >= 0 else ()
        parts = [Form(prime, 2, {(size - at, at): n for at, n in enumerate(numbers) if n}) for numbers in tables]
        if not any(plain_product(prime, part, Form(prime, 2, step)) == total.table for part in parts):
            return False
    return True


def all_pairs(prime, degree):
    """All pairs of a degree, and of zeros."""
    forms = [Form(prime, 2, {(degree - at, at): n for at, n in enumerate(numbers) if n})
             for numbers in itertools.product(range(prime), repeat=degree + 1)]
    return itertools.product(forms, repeat=2)


def any_tangent(source, marks, two, degree):
    """Some pair of the degree that the two pairs tell."""
    total = (Form(marks.prime, 2), Form(marks.prime, 2))
    for one in two:
        if degree >= degree_of(one):
            total = plus(total, times(one, some_form(source, marks.prime, 2, degree - degree_of(one), 0.8)))
    return total


class TangentTest(Checks, unittest.TestCase):
    def test_constant(self):
        self.assert_same(module.MAX_DEGREE, 24)

    def test_all_small_pairs(self):
        for marks in (Marks(2, {}), Marks(2, {X: 1}), Marks(2, {X: 2, Y: 1}), Marks(2, {X: 1, Y: 1, (1, 1): 1}), Marks(2, {(1, 1): 3}),
                      Marks(2, {X: 2, Y: 2, (1, 1): 2}), Marks(3, {X: 1, (1, 2): 2}), Marks(3, {Y: 2, (1, 1): 1})):
            for degree in range(4 if marks.prime == 2 else 2):
                told = [value for value in all_pairs(marks.prime, degree) if is_plainly_tangent(marks, value)]
                for value in all_pairs(marks.prime, degree):
                    self.assertIs(is_pair(marks, value), any(value == one for one in told))
                self.assertEqual(len(told), marks.prime ** count_pairs(marks, degree))
                numbers = [flat(value, degree) for value in told if any(value)]
                base = pairs_of(marks, degree)
                self.assert_same(tuple(flat(value, degree) for value in base), echelon_of(marks.prime, numbers))

    def test_some_pairs(self):
        for value, told in ((pair("x^3", "y^3"), True), (pair("y^3", "x^3"), False), (pair("0", "x^2y^3 - y^5"), True),
                            (pair("x^5 - x^3y^2", "0"), True), (pair("x^3", "0"), False), (pair("0", "0"), True),
                            (pair("x^3y", "y^4"), True), (pair("1", "1"), False), (pair("x^3", "y^4"), False)):
            self.assertIs(is_pair(EVEN, value), told)
        for value in (pair("1", "0"), pair("0", "3"), pair("7", "1"), pair("x^40", "y^40"), pair("0", "x")):
            self.assertIs(is_pair(Marks(0, {}), value), True)
        self.assertIs(is_pair(Marks(0, {}), pair("x", "1")), False)

    def test_pairs_of_great_degrees_and_numbers(self):
        for power in (0, 5, 37):
            value = times(pair("x^3", "y^3"), read("x + y").power(power))
            self.assertIs(is_pair(EVEN, value), True)
            self.assertIs(is_pair(EVEN, times(value, constant(0, HUGE))), True)
            self.assertIs(is_pair(EVEN, times(value, constant(0, 10 ** 3000 + 1))), True)
            self.assertIs(is_pair(EVEN, plus(value, (Form(0, 2, {(power + 3, 0): 1}), Form(0, 2)))), False)
        far = Marks(0, {(FAR, 1): 12, (1, -FAR): 12})
        one, other = linear(0, (1, -FAR)).power(12), linear(0, (FAR, 1)).power(12)
        value = (one * 1, one * -FAR)
        self.assertIs(is_pair(Marks(0, {(FAR, 1): 12, (1, -FAR): 12}), value), True)
        self.assertIs(are_two(far, (value, (other * FAR, other))), True)

    def test_no_pairs(self):
        x, zero = read("x"), Form(0, 2)
        for value in (None, x, (), (x,), (zero, zero, zero), [zero, zero], (zero, 0), (zero, None), (Form(5, 2), Form(5, 2)),
                      (Form(0, 3), Form(0, 3)), (zero, Form(0, 3)), (x, read("y^2")), (x, Form(5, 2)), ((zero, zero),), "xy", (1, 1)):
            self.assertIs(is_pair(EVEN, value), False)
            self.assertIs(is_pair(Marks(0, {}), value), False)
        for value in wrong_values():
            told = isinstance(value, tuple) and len(value) == 2 and isinstance(value[0], Form) and value[0].prime == 0
            self.assertIs(is_pair(EVEN, value), told)

    def test_wrong_marks(self):
        for value in wrong_values():
            if not isinstance(value, Marks):
                for call in (lambda: is_pair(value, None), lambda: count_pairs(value, None), lambda: pairs_of(value, None),
                             lambda: degrees(value), lambda: two_pairs(value), lambda: are_two(value, None),
                             lambda: told_by(value, None, None)):
                    self.assert_raises(InvalidMarks, call)


class BaseTest(Checks, unittest.TestCase):
    def test_the_bases(self):
        for marks in some_marks():
            low, high = degrees(marks)
            self.assertEqual(low + high, marks.total)
            self.assertLessEqual(low, high)
            for degree in (0, low - 1, low, low + 1, high, high + 2, 24):
                if not 0 <= degree <= 24:
                    continue
                base = pairs_of(marks, degree)
                self.assertEqual(len(base), max(0, degree - low + 1) + max(0, degree - high + 1))
                self.assert_same(count_pairs(marks, degree), len(base))
                self.assertTrue(all(is_pair(marks, value) and degree_of(value) == degree for value in base))
                numbers = [flat(value, degree) for value in base]
                self.assert_same(echelon_of(marks.prime, numbers), tuple(numbers))

    def test_each_tangent_pair_is_told(self):
        source = random.Random(63)
        for marks in some_marks():
            two = two_pairs(marks)
            for degree in (degrees(marks)[0], degrees(marks)[1] + 1):
                value = any_tangent(source, marks, two, degree)
                self.assertIs(is_pair(marks, value), True)
                numbers = [flat(one, degree) for one in pairs_of(marks, degree)]
                self.assertEqual(echelon_of(marks.prime, numbers + [flat(value, degree)]), tuple(numbers))

    def test_errors(self):
        for degree in (-1, 25, True, False, None, "1", (1,), [], {}, 10 ** 60, 40, EVEN):
            self.assert_raises(InvalidNumber(degree), count_pairs, EVEN, degree)
            self.assert_raises(InvalidNumber(degree), pairs_of, EVEN, degree)
        self.assertEqual([len(pairs_of(EVEN, 24)), count_pairs(EVEN, 24), count_pairs(EVEN, 0)], [42, 42, 0])


class TwoTest(Checks, unittest.TestCase):
    def test_two_pairs(self):
        for marks in some_marks():
            one, other = two_pairs(marks)
            self.assert_same((degree_of(one), degree_of(other)), degrees(marks))
            self.assertEqual(determinant(one, other).cleared(), marks.product.cleared())
            self.assertIs(are_two(marks, (one, other)), True)
            self.assertIs(are_two(marks, (other, one)), True)
            self.assertTrue(all(abs(number) < 10 ** 4000 for form in one + other for _, number in form))

    def test_the_determinant_of_tangent_pairs(self):
        source = random.Random(64)
        for marks in some_marks():
            two = two_pairs(marks)
            for degree in (degrees(marks)[0] + 1, degrees(marks)[1]):
                one, other = any_tangent(source, marks, two, degree), any_tangent(source, marks, two, degrees(marks)[1])
                self.assertEqual(outcome(determinant(one, other).over, marks.product.cleared())[0], "returned")

    def test_other_twos(self):
        source = random.Random(65)
        for marks in some_marks():
            one, other = two_pairs(marks)
            low, high = degrees(marks)
            times_of = [n for n in (1, 2, -HUGE) if marks.prime == 0 or n % marks.prime]
            more = some_form(source, marks.prime, 2, high - low)
            for number in times_of:
                changed = plus(times(other, constant(marks.prime, number)), times(one, more))
                for first in (one, times(one, constant(marks.prime, times_of[-1]))):
                    self.assertIs(are_two(marks, (first, changed)), True)
                    self.assertIs(are_two(marks, (changed, first)), True)
            zero = (Form(marks.prime, 2), Form(marks.prime, 2))
            x = Form(marks.prime, 2, {(1, 0): 1})
            for value in ((one, one), (one, times(one, more)), (one, zero), (zero, zero), (zero, other), (one, times(other, x)),
                          (times(one, x), other), (one,), (one, other, zero), [one, other], (one, None), (one, other[0]), None, one,
                          (one[::-1], other[::-1]) if marks.total and not is_pair(marks, one[::-1]) else None):
                self.assertIs(are_two(marks, value), False)

    def test_are_two_of_anything(self):
        for value in wrong_values():
            self.assertIs(are_two(EVEN, value), False)

    def test_great_numbers(self):
        source = random.Random(66)
        for many, count in ((12, 2), (8, 3), (3, 8), (4, 6)):
            marks = Marks(0, {spot: count for spot in some_spots(source, many, FAR)})
            two = two_pairs(marks)
            self.assertIs(are_two(marks, two), True)
            self.assertEqual(degrees(marks), (12, 12))
            self.assertTrue(all(abs(number) < 10 ** 4000 for one in two for form in one for _, number in form))


class DegreesTest(Checks, unittest.TestCase):
    def test_a_spot_more(self):
        for marks in some_marks():
            low, high = degrees(marks)
            spots = {*marks.spots, X, Y, (1, 1)}
            for spot in spots:
                if marks.count_at(spot) < 12 and marks.total < 24:
                    self.assertIn(degrees(marks.raised(spot)), (tuple(sorted((low + 1, high))), (low, high + 1)))
            for spot in marks.spots:
                self.assertIn(degrees(marks.lowered(spot)), ((low - 1, high), tuple(sorted((low, high - 1)))))

    def test_the_bounds(self):
        for marks in some_marks(67):
            low, high = degrees(marks)
            many, total = len(marks), marks.total
            if not many:
                self.assertEqual((low, high), (0, 0))
                continue
            self.assertGreaterEqual(low, min(many - 1, total - many + 1))
            if total <= 2 * many - 1:
                self.assertEqual(low, min(many - 1, total - many + 1))
            most = max(marks.counts.values())
            if 2 * most >= total:
                self.assertEqual((low, high), (total - most, most))

    def test_a_great_count(self):
        self.assertEqual([degrees(Marks(0, {X: 12})), degrees(Marks(3, {X: 12, Y: 5})), degrees(Marks(0, {X: 12, Y: 12}))],
                         [(0, 12), (5, 12), (12, 12)])

    def test_special_degrees(self):
        self.assertEqual([degrees(Marks(2, {X: 2, Y: 2, (1, 1): 2})), degrees(Marks(0, {X: 2, Y: 2, (1, 1): 2})),
                          degrees(Marks(2, {X: 8, Y: 8, (1, 1): 8})), degrees(Marks(3, {X: 3, Y: 3, (1, 1): 3}))],
                         [(2, 4), (3, 3), (8, 16), (3, 6)])
        # [0.21]: the counts do not tell the degrees, and over a prime three spots can have unlike degrees.
        self.assertEqual([degrees(EVEN), degrees(Marks(0, {X: 3, Y: 3, (1, 1): 1, (1, 2): 1}))], [(3, 5), (4, 4)])


class ToldTest(Checks, unittest.TestCase):
    def check(self, marks, two, value):
        u, v, scale = told_by(marks, two, value)
        self.assertTrue(type(scale) is int and scale >= 1 and (marks.prime == 0 or scale == 1))
        self.assertEqual(times(value, constant(marks.prime, scale)), plus(times(two[0], u), times(two[1], v)))
        numbers = [number for form in (u, v) for _, number in form]
        self.assertEqual(gcd(scale, *numbers), 1)
        self.assertEqual([u.letters, v.letters, u.prime, v.prime], [2, 2, marks.prime, marks.prime])

    def test_told(self):
        source = random.Random(68)
        for marks in some_marks():
            two = two_pairs(marks)
            for degree in (degrees(marks)[0], degrees(marks)[1], degrees(marks)[1] + 2):
                if degree <= 16:
                    value = any_tangent(source, marks, two, degree)
                    self.check(marks, two, value)
                    self.check(marks, two[::-1], value)
                    base = pairs_of(marks, degree)
                    if base:
                        self.check(marks, two, source.choice(base))

    def test_fractions(self):
        two = two_pairs(EVEN)
        for number, other in ((6, 1), (-6, 4), (HUGE, 3), (-1, -HUGE)):
            changed = (times(two[0], constant(0, number)), times(two[1], constant(0, other)))
            for value in (*two, plus(times(two[0], read("x^2")), two[1]), times(plus(times(two[0], read("3xy")), two[1]), read("2x"))):
                self.check(EVEN, changed, value)
                self.check(EVEN, changed[::-1], value)
        u, v, scale = told_by(EVEN, (times(two[0], read("6")), two[1]), two[0])
        self.assert_same([str(u), str(v), scale], ["1", "0", 6])
        u, v, scale = told_by(EVEN, (times(two[0], read("-6")), two[1]), times(two[0], read("4x")))
        self.assert_same([str(u), str(v), scale], ["-2x", "0", 3])

    def test_zero(self):
        for marks in (EVEN, Marks(5, {X: 2}), Marks(0, {})):
            two, zero = two_pairs(marks), Form(marks.prime, 2)
            self.assert_same(told_by(marks, two, (zero, zero))[2], 1)
            self.assertEqual(told_by(marks, two, (zero, zero))[:2], (zero, zero))
        self.assert_same(told_by(EVEN, tuple(times(one, read("5")) for one in two_pairs(EVEN)), pair("0", "0"))[2], 1)

    def test_the_degree(self):
        two = two_pairs(EVEN)
        self.check(EVEN, two, times(two[0], read("x + y").power(13)))
        self.assert_raises(TooMany(16), told_by, EVEN, two, times(two[0], read("x^14")))
        self.assert_raises(TooMany(16), told_by, EVEN, two, times(two[0], read("x^37")))
        heavy = Marks(2, {X: 8, Y: 8, (1, 1): 8})
        self.check(heavy, two_pairs(heavy), pairs_of(heavy, 16)[0])
        self.assert_raises(TooMany(16), told_by, heavy, two_pairs(heavy), pairs_of(heavy, 17)[0])

    def test_errors(self):
        two, zero = two_pairs(EVEN), pair("0", "0")
        far = times(two[0], read("x^37"))
        for value in (*wrong_values(), (two[0], two[0]), (two[0], zero), (zero, zero), list(two), (*two, zero), (two[0], far), two[0]):
            self.assert_raises(InvalidPair, told_by, EVEN, value, far)
            self.assert_raises(InvalidPair, told_by, EVEN, value, None)
        for value in (None, 1, two[0][0], list(two[0]), pair("y^3", "x^3"), pair("x^20", "y^21"), two, ()):
            self.assert_raises(InvalidPair, told_by, EVEN, two, value)
        self.assert_raises(InvalidPair, told_by, EVEN, two, times(pair("y^3", "x^3"), read("x^30")))
        self.assert_raises(InvalidPair, told_by, EVEN, two_pairs(Marks(5, {X: 3, Y: 3, (1, 1): 1, (1, 4): 1})), two[0])


if __name__ == "__main__":
    unittest.main()
