"""Places of spots: [7.1] to [7.6] and their functions."""

import itertools
import random
import unittest

from support import Checks, wrong_values
from test_forms import some_form
from test_marks import FAR, GREAT, NO_SPOTS, X, Y, plain_spots, some_marks, some_spots
from test_pairs import pair, read, times
from tangentrows.errors import InvalidMarks, InvalidNumber, InvalidOperation, InvalidPair, TooMany
from tangentrows.form.forms import Form
from tangentrows.mark import euclid, pairs, places
from tangentrows.mark.marks import Marks
from tangentrows.mark.pairs import are_two, degrees, is_pair, two_pairs
from tangentrows.mark.places import (cross_ratio, degrees_by_counts, gap_of_three, is_harmonic, is_special, special_places, widened,
                                     widened_pair)

ONE, MINUS = (1, 1), (1, -1)


def plain_gap(prime, counts):
    """The gap by its definition, with all triples up to the counts."""
    total = sum(counts)
    for count in counts:
        if count >= total - count:
            return count - (total - count)
    if prime == 0:
        return total % 2
    gap, power = 0, 1
    while power <= 4 * total:
        near = []
        for triple in itertools.product(range(max(counts) // power + 2), repeat=3):
            if sum(triple) % 2 == 1:
                distance = sum(abs(count - power * number) for count, number in zip(counts, triple))
                if distance < power:
                    near.append(distance)
        assert len(near) <= 1
        if near:
            gap = power - near[0]
        power *= prime
    return gap


class RatioTest(Checks, unittest.TestCase):
    def test_ratios(self):
        self.assert_same([cross_ratio(0, (X, Y, ONE, MINUS)), cross_ratio(0, (X, ONE, Y, MINUS)), cross_ratio(0, (X, Y, (2, 3), (5, 7)))],
                         [(1, -1), (2, 1), (15, 14)])
        self.assert_same([cross_ratio(3, (X, Y, ONE, (1, 2))), cross_ratio(5, (X, Y, ONE, (1, 2)))], [(1, 2), (1, 2)])
        far = (X, Y, (1, FAR), (FAR, -1))
        self.assert_same([cross_ratio(0, far), is_harmonic(0, far)], [(FAR ** 2, -1), False])

    def test_harmonic(self):
        self.assertIs(is_harmonic(0, (X, Y, ONE, MINUS)), True)
        self.assertIs(is_harmonic(0, (X, ONE, Y, MINUS)), False)
        self.assertIs(is_harmonic(0, (ONE, (1, 3), (1, 2), X)), False)
        self.assertIs(is_harmonic(0, ((1, 0), (1, 2), (1, 1), Y)), True)
        self.assertIs(is_harmonic(3, (X, Y, ONE, (1, 2))), True)
        for spots in itertools.permutations(plain_spots(3)):
            self.assertIs(is_harmonic(3, spots), True)
        for prime in (5, 7, 19):
            for last in range(2, prime):
                ratio = cross_ratio(prime, (X, Y, ONE, (1, last)))
                self.assert_same(is_harmonic(prime, (X, Y, ONE, (1, last))), sum(ratio) % prime == 0)
                self.assertIs(is_harmonic(prime, (X, Y, ONE, (1, last))), last == prime - 1)

    def test_tables_keep_them(self):
        source = random.Random(81)
        for prime in (0, 3, 7, 19):
            for _ in range(10):
                spots = some_spots(source, 4, 9) if prime == 0 else source.sample(plain_spots(prime), 4)
                table = ((1, source.randint(0, 2)), (2, 2))
                if (table[0][0] * table[1][1] - table[0][1] * table[1][0]) % (prime or GREAT) == 0:
                    continue
                led = [Marks(prime, {spot: 1}).led(table).spots[0] for spot in spots]
                self.assertEqual(cross_ratio(prime, tuple(led)), cross_ratio(prime, tuple(spots)))

    def test_errors(self):
        four = (X, Y, ONE, MINUS)
        for call in (cross_ratio, is_harmonic):
            for prime in wrong_values():
                self.assert_raises(InvalidNumber(prime), call, prime, None)
            for value in (*wrong_values(), list(four), four[:3], (*four, (1, 2)), (X, Y, X, ONE), (X, X, X, X), (X, Y, ONE, (1, FAR + 1))):
                self.assert_raises(InvalidOperation, call, 0, value)
            for spot in NO_SPOTS:
                self.assert_raises(InvalidOperation, call, 0, (X, spot, ONE, MINUS))
            self.assert_raises(InvalidOperation, call, 3, four)
            self.assert_raises(InvalidOperation, call, 2, (X, Y, ONE, X))


class GapTest(Checks, unittest.TestCase):
    def test_by_definition(self):
        for prime in (0, 2, 3, 5, 19):
            for counts in itertools.product(range(8), repeat=3):
                self.assert_same(gap_of_three(prime, counts), plain_gap(prime, counts))
            for counts in ((12, 11, 10), (17, 19, 21), (25, 25, 25), (8, 16, 16), (27, 26, 25), (30, 40, 50)):
                self.assert_same(gap_of_three(prime, counts), plain_gap(prime, counts))

    def test_they_are_the_gaps_of_marks(self):
        for prime in (0, 2, 3, 5, 7, 11):
            for counts in itertools.product((1, 2, 3, 4, 6, 8, 9, 12), repeat=3):
                if sum(counts) <= 24 and counts[0] <= counts[1]:
                    marks = Marks(prime, dict(zip((X, Y, ONE), counts)))
                    low, high = degrees(marks)
                    self.assertEqual(gap_of_three(prime, counts), high - low)

    def test_great_counts(self):
        half = 10 ** 59
        self.assert_same([gap_of_three(0, (half, half, half)), gap_of_three(0, (half, half, half + 1)), gap_of_three(0, (half, 3 * half, 1))],
                         [0, 1, 2 * half - 1])
        power = 2 ** 197
        self.assert_same(gap_of_three(2, (power, power, power)), power)
        self.assert_same(gap_of_three(2, (power, power + 5, power - 7)), power - 12)
        self.assert_same(gap_of_three(3, (3 ** 120, 3 ** 120, 3 ** 120 - 1)), 3 ** 120 - 1)
        self.assert_same([gap_of_three(5, (0, 0, 0)), gap_of_three(5, (0, 0, GREAT)), gap_of_three(0, (0, 7, 7))], [0, GREAT, 0])

    def test_errors(self):
        for prime in wrong_values():
            self.assert_raises(InvalidNumber(prime), gap_of_three, prime, None)
        for value in (*wrong_values(), (1, 2), (1, 2, 3, 4), [1, 2, 3], (1, 2, -1), (True, 2, 2), (1, 2, None), (1, 2, "3"),
                      (10 ** 60, 10 ** 60, 1)):
            if value not in ((0, 0, 0), (2, 0, 0), (1, 0, 0)) or not all(type(n) is int for n in value):
                self.assert_raises(InvalidOperation, gap_of_three, 7, value)


class CountsTest(Checks, unittest.TestCase):
    def test_they_are_the_degrees(self):
        source = random.Random(82)
        told = 0
        for prime in (0, 2, 3, 7, 13):
            for many in range(0, 8):
                spots = some_spots(source, many, 5) if prime == 0 else source.sample(plain_spots(prime), min(many, prime + 1))
                for _ in range(8):
                    marks = Marks(prime, {spot: source.randint(1, 3) for spot in spots})
                    found = degrees_by_counts(marks)
                    if found is not None:
                        self.assert_same(found, degrees(marks))
                        told += 1
        self.assertGreater(told, 150)

    def test_the_cases(self):
        four = (X, Y, ONE, MINUS)
        for prime, spots, counts, found in (
                (0, (), (), (0, 0)), (5, (), (), (0, 0)), (0, (X,), (7,), (0, 7)), (0, (X, Y), (3, 3), (3, 3)), (0, four[:3], (2, 1, 1), (2, 2)),
                (0, four[:3], (1, 1, 1), (1, 2)), (0, four, (1, 1, 1, 1), (1, 3)), (0, four, (1, 2, 1, 3), (3, 4)),
                (0, four, (2, 2, 2, 1), (3, 4)), (0, four, (2, 2, 2, 2), None), (0, four, (3, 3, 1, 1), None), (0, four, (3, 3, 3, 2), (5, 6)),
                (5, ((1, 0), (0, 1), (1, 1), (1, 2)), (3, 3, 3, 2), None), (0, four[:3], (3, 3, 3), (4, 5)), (3, four[:2] + (ONE,), (3, 3, 3), (3, 6)),
                (0, (*four, (1, 2)), (2, 2, 2, 2, 1), (4, 5)), (0, (*four, (1, 2)), (2, 2, 2, 2, 2), None),
                (0, (*four, (1, 2)), (2, 2, 2, 3, 2), None), (0, (*four, (1, 2)), (2, 2, 2, 8, 2), (8, 8)),
                (0, four, (2, 2, 2, 6), (6, 6)), (0, four, (2, 2, 2, 7), (6, 7))):
            marks = Marks(prime, dict(zip(spots, counts)))
            self.assert_same(degrees_by_counts(marks), found)
            if found:
                self.assertEqual(degrees(marks), found)

    def test_errors(self):
        for value in wrong_values():
            if not isinstance(value, Marks):
                self.assert_raises(InvalidMarks, degrees_by_counts, value)


class SpecialTest(Checks, unittest.TestCase):
    def test_special(self):
        for marks in some_marks(83):
            low, high = degrees(marks)
            some_half = [count for count in marks.counts.values() if 2 * count > marks.total]
            self.assertIs(is_special(marks), not some_half and high - low > 1)
        for counts, told in (({X: 3, Y: 3, ONE: 1, MINUS: 1}, True), ({X: 3, Y: 3, ONE: 1, (1, 2): 1}, False), ({X: 5, Y: 1}, False),
                             ({X: 2, Y: 2}, False), ({}, False)):
            self.assertIs(is_special(Marks(0, counts)), told)
        for value in wrong_values():
            if not isinstance(value, Marks):
                self.assert_raises(InvalidMarks, is_special, value)

    def test_special_places(self):
        source = random.Random(84)
        for prime in (2, 3, 5, 7, 19):
            spots = plain_spots(prime)
            for _ in range(3):
                marks = Marks(prime, {spot: source.randint(1, 4) for spot in source.sample(spots, min(4, len(spots)))})
                for spot in marks.spots:
                    told = []
                    for place in spots:
                        counts = marks.counts
                        count = counts.pop(spot)
                        if place not in counts:
                            counts[place] = count
                            if is_special(Marks(prime, counts)):
                                told.append(place)
                    self.assert_same(special_places(marks, spot), tuple(told))
        self.assert_same(special_places(Marks(5, {X: 3, Y: 3, ONE: 1, (1, 4): 1}), (1, 4)), ((1, 4),))
        full = Marks(2, {X: 2, Y: 2, ONE: 2})
        self.assert_same(special_places(full, X), (X,))

    def test_errors_of_special_places(self):
        for value in wrong_values():
            if not isinstance(value, Marks):
                self.assert_raises(InvalidMarks, special_places, value, None)
        for prime in (0, 5):
            marks = Marks(prime, {X: 1, ONE: 2})
            for spot in (*NO_SPOTS, Y, (1, 2)):
                self.assert_raises(InvalidOperation, special_places, marks, spot)
        self.assert_raises(InvalidOperation, special_places, Marks(0, {X: 1}), X)

    def test_two_heavy_spots_of_four(self):
        for prime in (0, 3, 5, 7, 13):
            for m in range(1, 6):
                for last in (range(2, prime) if prime else (-3, -2, -1, 2, 3)):
                    marks = Marks(prime, {X: m, Y: m, ONE: 1, (1, last): 1})
                    v, w = cross_ratio(prime, (X, Y, ONE, (1, last)))
                    like = (v ** (m - 1) - w ** (m - 1)) % (prime or GREAT) == 0
                    self.assertEqual(degrees(marks), (m, m + 2) if like else (m + 1, m + 1))

    def test_the_bound_over_fractions(self):
        source = random.Random(85)
        for many in (3, 4, 5, 6):
            for _ in range(6):
                marks = Marks(0, {spot: source.randint(1, 4) for spot in some_spots(source, many, 2)})
                low, high = degrees(marks)
                if 2 * max(marks.counts.values()) <= marks.total and marks.total >= 2 * many - 2:
                    self.assertLessEqual(high - low, many - 2)

    def test_what_is_not_true(self):
        # Equal counts at harmonic places need not be special.
        even = Marks(0, {X: 2, Y: 2, ONE: 2, MINUS: 2})
        self.assertIs(is_harmonic(0, (X, Y, ONE, MINUS)), True)
        self.assertEqual([degrees(even), is_special(even)], [(4, 4), False])
        # Special marks can stay special if a spot counts once more.
        marks = Marks(2, {X: 2, Y: 4, ONE: 4})
        self.assertEqual([is_special(marks), is_special(marks.raised(X))], [True, True])
        self.assertEqual([degrees(marks), degrees(marks.raised(X))], [(4, 6), (4, 7)])


class WidenedTest(Checks, unittest.TestCase):
    def test_widened(self):
        for marks in some_marks(86):
            prime, counts = marks.prime, list(marks.counts.values())
            if prime and (not counts or max(counts) * prime <= 12) and marks.total * prime <= 24:
                told = widened(marks)
                self.assert_same(told.counts, {spot: count * prime for spot, count in marks.counts.items()})
                self.assertEqual(degrees(told), tuple(prime * degree for degree in degrees(marks)))
                two = tuple(widened_pair(prime, one) for one in two_pairs(marks))
                self.assertIs(are_two(told, two), True)
        self.assert_same(widened(Marks(19, {})).counts, {})

    def test_the_bounds(self):
        self.assertEqual(widened(Marks(2, {X: 6, Y: 6})).total, 24)
        self.assertEqual(widened(Marks(3, {X: 4, Y: 4})).total, 24)
        self.assertEqual(widened(Marks(11, {X: 1, Y: 1})).total, 22)
        self.assert_raises(TooMany(12), widened, Marks(2, {X: 7}))
        self.assert_raises(TooMany(12), widened, Marks(13, {X: 1}))
        self.assert_raises(TooMany(12), widened, Marks(2, {X: 7, Y: 6}))
        self.assert_raises(TooMany(24), widened, Marks(2, {X: 6, Y: 6, ONE: 1}))
        self.assert_raises(TooMany(24), widened, Marks(5, {X: 2, Y: 2, ONE: 1}))
        for value in wrong_values():
            if not isinstance(value, Marks):
                self.assert_raises(InvalidMarks, widened, value)
        self.assert_raises(InvalidOperation, widened, Marks(0, {X: 12, Y: 12}))
        self.assert_raises(InvalidOperation, widened, Marks(0, {}))

    def test_widened_pairs(self):
        source = random.Random(87)
        for prime in (2, 3, 5, 7):
            value = (some_form(source, prime, 2, 3), some_form(source, prime, 2, 3))
            told = widened_pair(prime, value)
            for form, image in zip(value, told):
                self.assertEqual(image, form.led((Form(prime, 2, {(prime, 0): 1}), Form(prime, 2, {(0, prime): 1}))))
        zero, one = read("0", 5), read("1", 5)
        for value in ((zero, zero), (one, zero), (one, one * 3)):
            self.assertEqual(widened_pair(5, value), value)
        self.assertIs(is_pair(Marks(2, {X: 2}), widened_pair(2, pair("x", "y", 2))), True)

    def test_the_degree(self):
        self.assertEqual(widened_pair(2, pair("x^20", "y^20", 2)), pair("x^40", "y^40", 2))
        self.assertEqual(widened_pair(19, pair("0", "3xy", 19)), pair("0", "3x^19y^19", 19))
        self.assert_raises(TooMany(40), widened_pair, 2, pair("x^21", "0", 2))
        self.assert_raises(TooMany(40), widened_pair, 19, pair("0", "x^3", 19))
        self.assert_raises(TooMany(40), widened_pair, 3, times(pair("x", "y", 3), read("x^13", 3)))

    def test_errors_of_widened_pair(self):
        for prime in (*wrong_values(), 0, 4, 23):
            self.assert_raises(InvalidNumber(prime), widened_pair, prime, None)
        x = read("x", 5)
        for value in (*wrong_values(), (x,), [x, x], (x, x, x), (x, read("x^2", 5)), (x, read("x", 3)), (x, Form(5, 3)), (x, None), x,
                      pair("x^30", "y^29", 5), (x, 1)):
            self.assert_raises(InvalidPair, widened_pair, 5, value)


class StayTest(Checks, unittest.TestCase):
    def test_marks_stay_as_they_were(self):
        counts = {X: 2, ONE: 1, (1, 2): 1}
        for prime in (0, 5):
            marks = Marks(prime, counts)
            two = two_pairs(marks)
            calls = (lambda: pairs.is_pair(marks, two[0]), lambda: pairs.count_pairs(marks, 3), lambda: pairs.pairs_of(marks, 3),
                     lambda: pairs.degrees(marks), lambda: pairs.two_pairs(marks), lambda: pairs.are_two(marks, two),
                     lambda: pairs.told_by(marks, two, two[1]), lambda: euclid.contact(marks), lambda: euclid.divided(marks),
                     lambda: euclid.turn_of(marks), lambda: euclid.degrees_by_division(marks), lambda: euclid.pairs_by_division(marks),
                     lambda: euclid.rest_at(marks, two[0], X), lambda: euclid.grown(marks, two, X), lambda: euclid.pairs_by_growth(marks),
                     lambda: places.degrees_by_counts(marks), lambda: places.is_special(marks),
                     lambda: places.special_places(marks, X) if prime else None, lambda: places.widened(marks) if prime else None)
            for call in calls:
                texts = [str(form) for one in two for form in one]
                call()
                self.assert_same([marks.prime, marks.counts, marks.total], [prime, {X: 2, ONE: 1, (1, 2): 1}, 4])
                self.assertEqual(marks, Marks(prime, {(1, 2): 1, ONE: 1, X: 2}))
                self.assertEqual([str(form) for one in two for form in one], texts)
        self.assertEqual(counts, {X: 2, ONE: 1, (1, 2): 1})


if __name__ == "__main__":
    unittest.main()
