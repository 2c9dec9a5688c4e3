"""Pairs by division and by growth: [6.1] to [6.7] and their functions."""

import random
import unittest
from fractions import Fraction
from math import gcd, lcm

from support import Checks, wrong_values
from test_marks import FAR, NO_SPOTS, X, Y, some_marks, some_spots
from test_pairs import any_tangent, constant, degree_of, determinant, pair, plus, read, times
from tangentrows.errors import InvalidMarks, InvalidOperation, InvalidPair, Refused, TooMany
from tangentrows.form.forms import Form
from tangentrows.form.products import linear
from tangentrows.mark import euclid as module
from tangentrows.mark.euclid import contact, degrees_by_division, divided, grown, pairs_by_division, pairs_by_growth, rest_at, turn_of
from tangentrows.mark.marks import Marks
from tangentrows.mark.pairs import are_two, degrees, is_pair, two_pairs

THREE = Marks(0, {X: 2, (1, -1): 1, (1, 1): 1})
END = (0, 1)


class Field:
    """Plain reckoning with polynomials, lists of numbers from the power 0 on, over the fractions or over a prime."""

    def __init__(self, prime):
        self.prime = prime

    def number(self, value):
        return value % self.prime if self.prime else Fraction(value)

    def over(self, one, other):
        return one * pow(int(other), -1, self.prime) % self.prime if self.prime else Fraction(one) / Fraction(other)

    def clean(self, numbers):
        found = [self.number(n) for n in numbers]
        while found and found[-1] == 0:
            found.pop()
        return found

    def plus(self, one, other, factor=1):
        size = max(len(one), len(other))
        one, other = one + [0] * (size - len(one)), other + [0] * (size - len(other))
        return self.clean([a + factor * b for a, b in zip(one, other)])

    def times(self, one, other):
        found = [0] * (len(one) + len(other))
        for i, a in enumerate(one):
            for j, b in enumerate(other):
                found[i + j] += a * b
        return self.clean(found)

    def divide(self, one, other):
        """The quotient and the remainder."""
        quotient, rest = [], self.clean(one)
        while len(rest) >= len(other):
            part = [0] * (len(rest) - len(other)) + [self.over(rest[-1], other[-1])]
            quotient, rest = self.plus(quotient, part), self.plus(rest, self.times(part, other), -1)
        return quotient, rest

    def place(self, spot):
        return self.over(self.number(-spot[1]), spot[0])


def plain_division(marks, h):
    """The rows of the division, from the contact as a polynomial."""
    field = Field(marks.prime)
    whole = [field.number(1)]
    for spot, count in marks.counts.items():
        for _ in range(count):
            whole = field.times(whole, [-field.place(spot), 1])
    rows = [(whole, []), (h, [field.number(1)])]
    while rows[-1][0]:
        quotient, rest = field.divide(rows[-2][0], rows[-1][0])
        rows.append((rest, field.plus(rows[-2][1], field.times(quotient, rows[-1][1]), -1)))
    return rows


def as_forms(prime, row):
    """A pair of polynomials as a normal pair of forms, by [6.2] and [6.4]."""
    size = max(len(part) for part in row)
    numbers = [n for part in row for n in (list(part) + [0] * (size - len(part)))[::-1]]
    lead = [n for n in numbers if n][0]
    if prime:
        numbers = [n * pow(int(lead), -1, prime) % prime for n in numbers]
    else:
        whole = lcm(*[Fraction(n).denominator for n in numbers])
        numbers = [int(n * whole) for n in numbers]
        shared = gcd(*numbers) * (1 if lead > 0 else -1)
        numbers = [n // shared for n in numbers]
    parts = numbers[:size], numbers[size:]
    found = []
    for part in parts:
        total = Form(prime, 2)
        for at, number in enumerate(part):
            total = total + Form(prime, 2, {(size - 1 - at, at): 1}) * constant(prime, number) if number else total
        found.append(total)
    return tuple(found)


def polynomial(form, degree, under):
    """The polynomial that a form divided by a number is with t for x and 1 for y."""
    return Field(form.prime).clean([Field(form.prime).over(form[(at, degree - at)], under) for at in range(degree + 1)])


def endless(marks):
    """The marks without the end."""
    return Marks(marks.prime, {spot: count for spot, count in marks.counts.items() if spot != END})


def many_marks():
    for marks in some_marks(71):
        yield endless(marks)
    yield from (THREE, Marks(0, {(1, -1): 3, (1, 1): 3, (1, -2): 1, (2, -1): 1}), Marks(0, {X: 3}), Marks(0, {(2, -3): 1}))


class DivisionTest(Checks, unittest.TestCase):
    def test_constant(self):
        self.assert_same(module.END, (0, 1))

    def test_contacts(self):
        for marks in many_marks():
            form, under = contact(marks)
            field, total = Field(marks.prime), marks.total
            self.assertTrue(type(under) is int and under > 0 and (under == 1 or not marks.prime))
            self.assertEqual([form.prime, form.letters], [marks.prime, 2])
            if not total:
                self.assertEqual([form, under], [Form(marks.prime, 2), 1])
                continue
            self.assertIn(form.degree, (None, total - 1))
            self.assertEqual(gcd(under, *[number for _, number in form]), 1)
            h = polynomial(form, total - 1, under)
            for spot, count in marks.counts.items():
                rest = field.plus(h, [field.place(spot)], -1)
                for _ in range(count):
                    rest, left = field.divide(rest, [-field.place(spot), field.number(1)])
                    self.assertEqual(left, [])
            power = Form(marks.prime, 2, {(0, total - 1): 1})
            self.assertIs(is_pair(marks, (form, power * constant(marks.prime, under))), True)

    def test_some_contacts(self):
        for counts, text, under in (({}, "0", 1), ({X: 1}, "0", 1), ({X: 4}, "0", 1), ({(2, -3): 1}, "3", 2), ({(3, 1): 1}, "-1", 3),
                                    ({(1, -2): 3}, "2y^2", 1), ({X: 1, (1, -1): 1}, "x", 1)):
            self.assertEqual(contact(Marks(0, counts)), (read(text), under))
        self.assertEqual(contact(Marks(7, {(1, 3): 1})), (read("4", 7), 1))
        self.assertEqual(contact(Marks(7, {})), (read("0", 7), 1))

    def test_divisions(self):
        for marks in many_marks():
            form, under = contact(marks)
            rows = plain_division(marks, polynomial(form, max(0, marks.total - 1), under))
            told = divided(marks)
            self.assertIs(type(told), tuple)
            self.assertEqual(list(told), [as_forms(marks.prime, row) for row in rows])
            turn = max(at for at, (over, less) in enumerate(rows) if len(over) >= len(less))
            self.assert_same(turn_of(marks), turn)
            self.assertTrue(all(is_pair(marks, one) for one in told))

    def test_no_spots(self):
        for prime in (0, 5):
            marks, one, zero = Marks(prime, {}), read("1", prime), read("0", prime)
            self.assertEqual(divided(marks), ((one, zero), (zero, one)))
            self.assert_same([turn_of(marks), degrees_by_division(marks)], [0, (0, 0)])
            self.assertEqual(pairs_by_division(marks), ((one, zero), (zero, one)))

    def test_the_degrees_along_the_division(self):
        for marks in many_marks():
            form, under = contact(marks)
            rows = plain_division(marks, polynomial(form, max(0, marks.total - 1), under))
            told = divided(marks)
            for (over, less), (later, greater) in zip(rows, rows[1:]):
                self.assertGreater(len(over), len(later))
                self.assertLess(len(less), len(greater))
                self.assertEqual(len(over) - 1 + len(greater) - 1, marks.total)
            for one, other in zip(told, told[1:]):
                power = degree_of(one) + degree_of(other) - marks.total
                product = marks.product * Form(marks.prime, 2, {(0, power): 1})
                self.assertEqual(determinant(one, other).cleared(), product.cleared())

    def test_pairs_by_division(self):
        for marks in many_marks():
            told, turn = pairs_by_division(marks), turn_of(marks)
            self.assertIs(are_two(marks, told), True)
            self.assert_same(degrees_by_division(marks), degrees(marks))
            self.assertEqual((degree_of(told[0]), degree_of(told[1])), degrees(marks))
            first, second = divided(marks)[turn:turn + 2]
            self.assertEqual(told, (second, first) if degree_of(second) < degree_of(first) else (first, second))
        for marks in (THREE, Marks(0, {X: 2, (1, 1): 2})):
            self.assertEqual(pairs_by_division(marks)[0], divided(marks)[turn_of(marks)])

    def test_great_spots(self):
        source = random.Random(72)
        marks = Marks(0, {spot: 3 for spot in some_spots(source, 8, FAR)})
        self.assertIs(are_two(marks, pairs_by_division(marks)), True)
        self.assertEqual(degrees_by_division(marks), degrees(marks))

    def test_errors(self):
        calls = (contact, divided, turn_of, degrees_by_division, pairs_by_division)
        for call in calls:
            for value in wrong_values():
                if not isinstance(value, Marks):
                    self.assert_raises(InvalidMarks, call, value)
            for marks in (Marks(0, {END: 1}), Marks(3, {X: 1, END: 2}), Marks(2, {END: 12})):
                self.assert_raises(Refused(("end",)), call, marks)

    def test_what_is_not_true(self):
        # The first polynomials of these marks have the degrees 7, 5, 3 and 1.
        marks = Marks(0, {X: 1, (1, 1): 3, (1, -1): 3})
        form, under = contact(marks)
        self.assertEqual([len(row[0]) - 1 for row in plain_division(marks, polynomial(form, 6, under))], [7, 5, 3, 1, -1])
        # The lesser degree grows at X, and not at Y.
        uneven = Marks(0, {X: 1, Y: 2})
        self.assertEqual([degrees(uneven), degrees(uneven.raised(X)), degrees(uneven.raised(Y))], [(1, 2), (2, 2), (1, 3)])


class GrowthTest(Checks, unittest.TestCase):
    def rests(self, marks, value, spot):
        """The rest by its definition."""
        prime, (a, b) = marks.prime, spot
        total = value[0] * a + value[1] * b
        for _ in range(marks.count_at(spot)):
            total = total.over(linear(prime, spot))
        return total.at((b, -a % prime if prime else -a))

    def test_rests(self):
        source = random.Random(73)
        for marks in some_marks(74):
            two = two_pairs(marks)
            for spot in {*marks.spots, X, Y, (1, 1)}:
                found = []
                for value in (*two, any_tangent(source, marks, two, degrees(marks)[1] + 1)):
                    if degree_of(value) is None:
                        continue
                    told = rest_at(marks, value, spot)
                    self.assert_same(told, self.rests(marks, value, spot))
                    found.append(told)
                    if marks.count_at(spot) < 12 and marks.total < 24:
                        if len(marks) < 13 or marks.count_at(spot):
                            self.assertIs(is_pair(marks.raised(spot), value), told == 0)
                self.assertTrue(any(found[:2]))

    def test_some_rests(self):
        plain = pair("x", "y")
        simple = Marks(0, {X: 1, (1, -1): 1, (1, 1): 1})
        self.assert_same([rest_at(simple, plain, X), rest_at(simple, plain, (1, 2)), rest_at(simple, plain, (1, 1))], [1, 0, 1])
        self.assert_same([rest_at(Marks(5, {}), pair("1", "3", 5), (1, 4)), rest_at(Marks(5, {}), pair("2", "4", 5), (1, 2))], [3, 0])
        self.assert_same(rest_at(Marks(0, {}), pair("x^40", "0"), (1, FAR)), FAR ** 40)
        self.assert_same(rest_at(Marks(0, {X: 12}), pair("x^12y^28", "0"), Y), 0)
        self.assert_same(rest_at(Marks(0, {X: 12}), pair("x^12y^28", "0"), X), 1)

    def test_errors_of_rests(self):
        marks, plain, zero = Marks(0, {X: 1}), pair("x", "y"), pair("0", "0")
        for value in wrong_values():
            if not isinstance(value, Marks):
                self.assert_raises(InvalidMarks, rest_at, value, None, None)
            if value != zero:
                self.assert_raises(InvalidPair, rest_at, marks, value, None)
        for value in (zero, pair("y", "x"), pair("1", "1"), list(plain), plain[0], (plain[0],), pair("x", "y", 5)):
            self.assert_raises(InvalidPair, rest_at, marks, value, X)
            self.assert_raises(InvalidPair, rest_at, marks, value, None)
        for spot in NO_SPOTS:
            self.assert_raises(InvalidOperation, rest_at, marks, plain, spot)

    def test_grown(self):
        source = random.Random(75)
        for marks in some_marks(76):
            if marks.total == 24:
                continue
            low, high = degrees(marks)
            one, other = two_pairs(marks)
            changed = plus(times(other, constant(marks.prime, -1)), times(one, Form(marks.prime, 2, {(high - low, 0): 1})))
            for spot in {*marks.spots, X, Y, (1, 1)}:
                if marks.count_at(spot) == 12:
                    continue
                for two in ((one, other), (other, one), (one, changed), (changed, one)):
                    told = grown(marks, two, spot)
                    self.assertIs(are_two(marks.raised(spot), told), True)
                    self.assertEqual((degree_of(told[0]), degree_of(told[1])), degrees(marks.raised(spot)))

    def test_grown_from_great_numbers(self):
        marks = Marks(0, {X: 3, Y: 3, (1, 1): 1, (1, -1): 1})
        one, other = two_pairs(marks)
        great = constant(0, 10 ** 3900 + 7)
        for two in ((times(one, great), other), (one, plus(other, times(one, great * read("x^2 - xy"))))):
            for spot in (X, Y, (1, 1), (1, 3)):
                told = grown(marks, two, spot)
                self.assertIs(are_two(marks.raised(spot), told), True)
                self.assertTrue(all(abs(number) < 10 ** 20 for value in told for form in value for _, number in form))

    def test_errors_of_grown(self):
        marks = Marks(0, {X: 12, Y: 12})
        two, zero = two_pairs(marks), pair("0", "0")
        for value in wrong_values():
            if not isinstance(value, Marks):
                self.assert_raises(InvalidMarks, grown, value, None, None)
            self.assert_raises(InvalidPair, grown, marks, value, None)
        for value in ((two[0], two[0]), (two[0], zero), list(two), (two[0],), (*two, zero), (two[0], times(two[1], read("x")))):
            self.assert_raises(InvalidPair, grown, marks, value, X)
        for spot in NO_SPOTS:
            self.assert_raises(InvalidOperation, grown, marks, two, spot)
        self.assert_raises(TooMany(12), grown, marks, two, X)
        self.assert_raises(TooMany(24), grown, marks, two, (1, 1))
        full = Marks(0, {(1, k): 1 for k in range(13)})
        self.assert_raises(TooMany(13), grown, full, two_pairs(full), (1, 13))
        self.assertIs(are_two(full.raised(X), grown(full, two_pairs(full), X)), True)

    def test_pairs_by_growth(self):
        for marks in some_marks(77):
            told = pairs_by_growth(marks)
            self.assertIs(are_two(marks, told), True)
            self.assertEqual((degree_of(told[0]), degree_of(told[1])), degrees(marks))
        self.assertEqual(sorted(map(str, pairs_by_growth(Marks(0, {}))[0] + pairs_by_growth(Marks(0, {}))[1])), ["0", "0", "1", "1"])
        for value in wrong_values():
            if not isinstance(value, Marks):
                self.assert_raises(InvalidMarks, pairs_by_growth, value)

    def test_the_numbers_stay_small(self):
        source = random.Random(78)
        for many, count in ((8, 3), (4, 6), (12, 2)):
            marks = Marks(0, {spot: count for spot in some_spots(source, many, FAR)})
            told = pairs_by_growth(marks)
            self.assertIs(are_two(marks, told), True)
            self.assertTrue(all(abs(number) < 10 ** 4000 for value in told for form in value for _, number in form))

    def test_which_one_grows(self):
        # A spot more raises the pair whose rest is not 0, the lesser one of two such; the other degree stays.
        for marks in some_marks(79):
            if marks.total == 24:
                continue
            low, high = degrees(marks)
            one, other = two_pairs(marks)
            for spot in {*marks.spots, X, Y, (1, 1)}:
                if marks.count_at(spot) < 12:
                    lesser = rest_at(marks, one, spot) != 0
                    told = (low + 1, high) if lesser else (low, high + 1)
                    self.assertEqual(degrees(marks.raised(spot)), tuple(sorted(told)))


if __name__ == "__main__":
    unittest.main()
