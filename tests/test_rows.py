"""Tangent rows, degree by degree: [0.13], [8.1] to [8.6] and their functions."""

import inspect
import itertools
import random
import unittest

from support import Checks, outcome, wrong_values
from test_forms import some_form
from test_lines import NO_TRIPLES, plain_triples, some_triples
from test_lots import BRAID, FIVE, GENERAL, PENCIL, X, Y, Z
from test_pairs import constant
from test_primes import FAN, PLUS
from tangentrows.base.tables import determinant, echelon_of, undone
from tangentrows.errors import InvalidLine, InvalidLot, InvalidNumber, InvalidRow, InvalidTable, Refused, TooMany
from tangentrows.form.forms import Form, monomials
from tangentrows.form.products import linear
from tangentrows.plane.lots import Lot
from tangentrows.plane.primes import all_lines
from tangentrows.row import rows as module
from tangentrows.row.rows import (count_killing, count_rows, each_count, far_count, is_tangent, killing_rows, least_degree, led_row, parted,
                                  plain, rows_of)

GREAT = 10 ** 60 - 1
HUGE = GREAT * GREAT * 7
TRI = Lot(0, (X, Y, Z))


def read(text, prime=0):
    return Form.read(prime, 3, text)


def row(one, other, third, prime=0):
    return read(one, prime), read(other, prime), read(third, prime)


def powers(degree, prime=0):
    return tuple(read(letter, prime).power(degree) for letter in "xyz")


def zeros(prime):
    return Form(prime, 3), Form(prime, 3), Form(prime, 3)


def number3(prime, number):
    """The form of the degree 0 in three letters with a number of any size."""
    return constant(prime, number).led((Form(prime, 3), Form(prime, 3)))


def times(value, factor):
    return tuple(form * factor for form in value)


def plus(one, other):
    return tuple(a + b for a, b in zip(one, other))


def degree_of(value):
    return max([form.degree for form in value if form], default=None)


def flat(value, degree):
    """The numbers of a row, as [8.2] tells their order."""
    return tuple(form[place] for form in value for place in monomials(3, degree))


def sum_at(line, value):
    a, b, c = line
    return value[0] * a + value[1] * b + value[2] * c


def is_plainly_tangent(lot, value):
    """Tangent by the forms on the lines: each point of each line over the prime, or many of them over 0, and the degree."""
    for line in lot.lines:
        one, other = ((0, -line[2], line[1]), (line[2], 0, -line[0]), (-line[1], line[0], 0))[:2] if line[2] else (
            ((0, 0, 1), (line[1], -line[0], 0)))
        prime = lot.prime
        letters = Form(prime, 2, {(1, 0): 1}), Form(prime, 2, {(0, 1): 1})
        images = []
        for a, b in zip(one, other):
            a, b = (a % prime, b % prime) if prime else (a, b)
            images.append(letters[0] * a + letters[1] * b)
        if sum_at(line, value).led(tuple(images)):
            return False
    return True


def any_row(source, prime, degree):
    return tuple(some_form(source, prime, 3, degree, 0.7) for _ in range(3))


def some_lots():
    source = random.Random(91)
    yield from (BRAID, FIVE, FAN, PLUS, TRI, Lot(0, (X,)), Lot(0, ((1, 2, 3), (0, 1, 5))), Lot(0, PENCIL[:5]), Lot(0, PENCIL[:4] + (Z,)))
    yield Lot(0, GENERAL[:6])
    for prime in (2, 3, 5, 19):
        triples = plain_triples(prime)
        for many in (1, 2, 4, 6, 7):
            yield Lot(prime, tuple(source.sample(triples, many)))
    yield Lot(0, tuple(some_triples(source, 5, 9)))


def some_mix(source, lot, degree):
    """A tangent row of the degree, a sum of the rows of the base."""
    total = zeros(lot.prime)
    for one in rows_of(lot, degree):
        total = plus(total, times(one, source.randint(0, (lot.prime or 5) - 1)))
    return total


class TangentTest(Checks, unittest.TestCase):
    def test_constants(self):
        self.assert_same([module.MOST_LINES, module.MOST_DEGREE, module.MOST_FAR], [9, 7, 1000])

    def test_plain(self):
        for prime in (0, 2, 19):
            self.assertEqual(plain(prime), row("x", "y", "z", prime))
            self.assertIs(type(plain(prime)), tuple)
        for lot in some_lots():
            self.assertIs(is_tangent(lot, plain(lot.prime)), True)
            self.assertIs(is_tangent(lot, zeros(lot.prime)), True)
        for prime in wrong_values():
            self.assert_raises(InvalidNumber(prime), plain, prime)

    def test_some_rows(self):
        for value, told in ((powers(2), True), (powers(3), True), (powers(40), True), (row("x", "0", "0"), False), (row("0", "y", "0"), False),
                            (row("y", "x", "z"), False), (row("1", "0", "0"), False), (row("1", "1", "1"), False), (row("x^2", "y^2", "0"), False)):
            self.assertIs(is_tangent(BRAID, value), told)
        self.assertIs(is_tangent(TRI, row("x", "0", "0")), True)
        self.assertIs(is_tangent(TRI, row("3", "0", "0")), False)
        self.assertIs(is_tangent(Lot(0, PENCIL), row("0", "0", "1")), True)
        self.assertIs(is_tangent(Lot(0, PENCIL), row("0", "0", "x^30y^10")), True)

    def test_by_substitution(self):
        source = random.Random(92)
        for lot in some_lots():
            for degree in (0, 1, 2, 3):
                for value in (any_row(source, lot.prime, degree), some_mix(source, lot, degree)):
                    self.assertIs(is_tangent(lot, value), is_plainly_tangent(lot, value))
                    great = times(value, number3(lot.prime, HUGE))
                    self.assertIs(is_tangent(lot, great), is_tangent(lot, value) or not any(great))

    def test_sums_and_multiples(self):
        source = random.Random(93)
        for lot in some_lots():
            one, other = some_mix(source, lot, 3), some_mix(source, lot, 3)
            self.assertIs(is_tangent(lot, plus(one, other)), True)
            self.assertIs(is_tangent(lot, times(one, some_form(source, lot.prime, 3, 2))), True)
            self.assertIs(is_tangent(lot, times(one, read("x", lot.prime).power(37))), True)
            self.assertIs(is_tangent(lot, times(plain(lot.prime), some_form(source, lot.prime, 3, 3))), True)

    def test_no_rows(self):
        x, zero = read("x"), Form(0, 3)
        for value in (*wrong_values(), (x, x), [x, x, x], (x, x, x, x), (x, x, None), (x, x, 0), (x, read("y^2"), zero), zeros(5),
                      (zero, zero, Form(5, 3)), (Form(0, 2),) * 3, (zero, zero, Form(0, 2)), x, ((x, x, x),), "xyz", (1, 1, 1)):
            self.assertIs(is_tangent(BRAID, value), False)
        for value in wrong_values():
            if not isinstance(value, Lot):
                self.assert_raises(InvalidLot, is_tangent, value, None)


class CountTest(Checks, unittest.TestCase):
    def test_all_small_rows(self):
        for lot in (Lot(2, (X, Y)), Lot(2, (X, Y, Z, (1, 1, 1))), Lot(2, tuple(plain_triples(2)[:6]))):
            for degree in (0, 1):
                places = list(monomials(3, degree))
                forms = [Form(2, 3, {place: 1 for place, n in zip(places, bits) if n}) for bits in itertools.product((0, 1), repeat=len(places))]
                told = [value for value in itertools.product(forms, repeat=3) if is_plainly_tangent(lot, value)]
                self.assertEqual(len(told), 2 ** count_rows(lot, degree))
                self.assertTrue(all(is_tangent(lot, value) for value in told))
                line = lot.lines[-1]
                killing = [value for value in told if not sum_at(line, value)]
                self.assertEqual(len(killing), 2 ** count_killing(lot, degree))
                self.assert_same(tuple(flat(value, degree) for value in rows_of(lot, degree)),
                                 echelon_of(2, [flat(value, degree) for value in told if any(value)]))
                self.assert_same(tuple(flat(value, degree) for value in killing_rows(lot, line, degree)),
                                 echelon_of(2, [flat(value, degree) for value in killing if any(value)]))

    def test_the_bases(self):
        for lot in some_lots():
            for degree in range(5):
                base, number = rows_of(lot, degree), count_killing(lot, degree)
                self.assert_same(len(base), count_rows(lot, degree))
                self.assertEqual(len(base), number + degree * (degree + 1) // 2)
                numbers = [flat(value, degree) for value in base]
                self.assert_same(echelon_of(lot.prime, numbers), tuple(numbers))
                self.assertTrue(all(is_tangent(lot, value) and degree_of(value) == degree for value in base))
                for line in lot.lines[::3]:
                    told = killing_rows(lot, line, degree)
                    self.assertEqual(len(told), number)
                    self.assertTrue(all(is_tangent(lot, value) and not sum_at(line, value) for value in told))
                    parts = [flat(value, degree) for value in told]
                    self.assert_same(echelon_of(lot.prime, parts), tuple(parts))
                    more = [times(plain(lot.prime), Form(lot.prime, 3, {place: 1})) for place in monomials(3, degree - 1)] if degree else []
                    self.assertEqual(echelon_of(lot.prime, parts + [flat(value, degree) for value in more]), tuple(numbers))

    def test_far_counts(self):
        for lot in some_lots():
            for degree in range(max(0, lot.many - 2), 8):
                self.assert_same(far_count(lot, degree), len(killing_rows(lot, lot.lines[0], degree)))
                self.assert_same(far_count(lot, degree), count_killing(lot, degree))
            n, c = lot.many, lot.rest
            for degree in (n, 100, 1000):
                twice = 2 * (degree + 1) * (degree + 2) - (n - 1) * (2 * degree + 3) + (n - 1) ** 2 - 2 * c
                self.assert_same(far_count(lot, degree) * 2, twice)

    def test_free_counts(self):
        def terms(degree):
            return (degree + 1) * (degree + 2) // 2 if degree >= 0 else 0
        for lot, d, e in ((BRAID, 2, 3), (PLUS, 3, 3), (all_lines(2), 2, 4), (Lot(0, PENCIL[:5]), 0, 4), (TRI, 1, 1), (Lot(0, (X,)), 0, 0)):
            self.assertEqual([count_killing(lot, k) for k in range(8)], [terms(k - d) + terms(k - e) for k in range(8)])
        for lot in (FIVE, FAN):
            found = [count_killing(lot, k) for k in range(8)]
            for d in range(lot.many):
                self.assertNotEqual(found, [terms(k - d) + terms(k - lot.many + 1 + d) for k in range(8)])

    def test_least_degrees(self):
        for lot in some_lots():
            found = [k for k in range(8) if count_killing(lot, k)]
            self.assert_same(least_degree(lot), found[0])
            self.assertEqual(least_degree(lot) == 0, lot.is_bundle)
            if not lot.is_bundle:
                self.assertLessEqual(least_degree(lot), lot.many - 2)

    def test_the_least_degree_and_the_rest(self):
        # [0.18], with the lots whose freeness the counts tell.
        for lot in some_lots():
            r, n, c = least_degree(lot), lot.many, lot.rest
            self.assertGreaterEqual(c, r * (n - 1 - r))
            if 2 * r >= n:
                self.assertGreaterEqual(c, r * (n - 1 - r) + (2 * r - n + 1) * (2 * r - n + 2) // 2)

    def test_each_count(self):
        for lot in some_lots():
            made = each_count(lot)
            self.assertTrue(inspect.isgenerator(made))
            self.assert_same(list(made), [count_killing(lot, k) for k in range(max(1, lot.many - 1))])
        self.assert_same([list(each_count(Lot(0, (X,)))), list(each_count(Lot(0, (X, Y)))), list(each_count(TRI))], [[2], [1], [0, 2]])

    def test_nine_and_ten_lines(self):
        for lines in (GENERAL[:9], PENCIL[:8] + (Z,)):
            lot = Lot(0, lines)
            self.assertEqual(count_killing(lot, 7), len(killing_rows(lot, lot.lines[4], 7)))
            self.assertEqual(count_rows(lot, 7), len(rows_of(lot, 7)))
            self.assertEqual([len(list(each_count(lot))), least_degree(lot)], [8, 7 if lines == GENERAL[:9] else 1])
        ten = Lot(0, GENERAL[:10])
        for call in (lambda: count_rows(ten, 7), lambda: count_killing(ten, 0), lambda: rows_of(ten, 0), lambda: least_degree(ten),
                     lambda: killing_rows(ten, ten.lines[0], 0), lambda: next(each_count(ten)), lambda: least_degree(Lot(0, PENCIL[:10]))):
            self.assert_raises(TooMany(9), call)
        self.assert_same(far_count(ten, 8), 9 * 10 - 9 * 19 // 2 - 1 + 81 // 2 + 1 - 36)
        self.assertIs(is_tangent(Lot(0, PENCIL), plain(0)), True)

    def test_errors(self):
        ten = Lot(0, GENERAL[:10])
        for value in wrong_values():
            if not isinstance(value, Lot):
                for call in (lambda: count_rows(value, None), lambda: count_killing(value, None), lambda: rows_of(value, None),
                             lambda: killing_rows(value, None, None), lambda: parted(value, None, None), lambda: least_degree(value),
                             lambda: far_count(value, None), lambda: next(each_count(value))):
                    self.assert_raises(InvalidLot, call)
        for degree in (-1, 8, True, False, None, "1", (1,), [], {}, 10 ** 60, BRAID):
            for lot in (BRAID, ten):
                self.assert_raises(InvalidNumber(degree), count_rows, lot, degree)
                self.assert_raises(InvalidNumber(degree), count_killing, lot, degree)
                self.assert_raises(InvalidNumber(degree), rows_of, lot, degree)
                self.assert_raises(InvalidNumber(degree), killing_rows, lot, lot.lines[0], degree)
        for line in (*NO_TRIPLES, (1, 1, 1), (1, 1001, 0), (5, 7, 9)):
            self.assert_raises(InvalidLine, killing_rows, BRAID, line, None)
            self.assert_raises(InvalidLine, killing_rows, ten, line, 3) if line not in ten else None
            self.assert_raises(InvalidLine, parted, BRAID, line, None)
        made = each_count(None)
        self.assertEqual(outcome(next, made)[0], "InvalidLot")

    def test_errors_of_far_count(self):
        for lot, least in ((BRAID, 4), (FIVE, 3), (Lot(0, (X,)), 0), (Lot(0, (X, Y)), 0), (TRI, 1), (Lot(0, GENERAL[:13]), 11)):
            self.assertEqual(outcome(far_count, lot, least)[0], "returned")
            self.assertEqual(outcome(far_count, lot, 1000)[0], "returned")
            for degree in (least - 1, -1, 1001, True, None, "4", (4,), [], 10 ** 60):
                self.assert_raises(InvalidNumber(degree), far_count, lot, degree)
        self.assert_same([far_count(Lot(0, (X,)), k) for k in range(4)], [2, 6, 12, 20])


class PartedTest(Checks, unittest.TestCase):
    def test_parted(self):
        source = random.Random(94)
        for lot in some_lots():
            for degree in (0, 1, 3):
                value = some_mix(source, lot, degree)
                for line in lot.lines[::2]:
                    form, rest = parted(lot, line, value)
                    self.assertEqual(plus(times(plain(lot.prime), form), rest), value)
                    self.assertEqual(sum_at(line, rest), Form(lot.prime, 3))
                    self.assertIs(is_tangent(lot, rest), True)
                    self.assertEqual(form * linear(lot.prime, line), sum_at(line, value))

    def test_great_rows(self):
        for value in (powers(40), times(powers(2), number3(0, HUGE)), times(powers(3), read("x - z").power(37))):
            form, rest = parted(BRAID, (1, -1, 0), value)
            self.assertEqual(plus(times(plain(0), form), rest), value)
            self.assertFalse(sum_at((1, -1, 0), rest))
        self.assertEqual(parted(BRAID, X, zeros(0)), (Form(0, 3), zeros(0)))
        self.assertEqual(parted(BRAID, X, plain(0)), (read("1"), zeros(0)))
        self.assertEqual(parted(Lot(0, PENCIL), X, row("0", "0", "5")), (Form(0, 3), row("0", "0", "5")))

    def test_errors(self):
        for value in (*wrong_values(), row("x", "0", "0"), list(powers(2)), powers(2)[:2], powers(2, 5), row("x^2", "y^2", "0")):
            self.assert_raises(InvalidRow, parted, BRAID, X, value)


class LedTest(Checks, unittest.TestCase):
    def tables(self, source, prime):
        while True:
            table = tuple(tuple(source.randint(0, prime - 1) if prime else source.randint(-2, 2) for _ in range(3)) for _ in range(3))
            if determinant(prime, table):
                return table

    def test_led(self):
        source = random.Random(95)
        for lot in some_lots():
            prime = lot.prime
            for degree in (0, 2, 3):
                table = self.tables(source, prime)
                value = some_mix(source, lot, degree)
                told = led_row(prime, value, table)
                image = outcome(lot.led, table)[1]
                if isinstance(image, Lot):
                    self.assertIs(is_tangent(image, told), True)
                back = undone(prime, table)
                for _ in range(3):
                    point = tuple(source.randint(0, (prime or 5) - 1) for _ in range(3))
                    inner = tuple(sum(a * b for a, b in zip(line, point)) for line in back)
                    inner = tuple(n % prime for n in inner) if prime else inner
                    values = [form.at(inner) for form in value]
                    found = [sum(a * b for a, b in zip(line, values)) for line in table]
                    self.assertEqual([form.at(point) for form in told], [n % prime for n in found] if prime else found)

    def test_some(self):
        swap = ((0, 1, 0), (1, 0, 0), (0, 0, 1))
        self.assertEqual(led_row(0, row("x^2", "0", "yz"), swap), row("0", "y^2", "xz"))
        self.assertEqual(led_row(0, row("2", "3", "5"), ((1, 1, 0), (0, 1, 0), (0, 0, 7))), row("5", "3", "35"))
        self.assertEqual(led_row(0, zeros(0), swap), zeros(0))
        self.assertEqual(led_row(0, powers(40), swap), powers(40))
        self.assertEqual(led_row(5, row("x", "0", "0", 5), ((2, 0, 0), (0, 1, 0), (0, 0, 1))), row("2x", "0", "0", 5))
        great = ((GREAT, 0, 0), (0, GREAT - 1, 0), (0, 0, 1))
        told = led_row(0, row("x", "y", "z"), great)
        whole = GREAT * (GREAT - 1)
        self.assertEqual(told, times(row("x", "y", "z"), number3(0, whole)))

    def test_errors(self):
        unit = (X, Y, Z)
        for prime in wrong_values():
            self.assert_raises(InvalidNumber(prime), led_row, prime, None, None)
        for value in (*wrong_values(), powers(2)[:2], list(powers(2)), powers(2, 5), (read("y"), read("y^2"), read("z")), (1, 2, 3)):
            if not isinstance(value, tuple) or len(value) != 3 or value[0] != read("x"):
                self.assert_raises(InvalidRow, led_row, 0, value, None)
        for table in (None, 1, "x", (), [], unit[:2], list(unit), (X, Y, [0, 0, 1]), ((1, 0), (0, 1)), (X, Y, Z, X), (X, Y, (0, 0, True)),
                      (X, Y, (0, 0, None)), (X, Y, (0, 0, 10 ** 60)), {}, BRAID,
                      tuple(tuple(int(i == j) for j in range(4)) for i in range(4))):
            self.assert_raises(InvalidTable, led_row, 0, powers(2), table)
        self.assert_raises(InvalidTable, led_row, 3, powers(2, 3), (X, Y, (0, 0, 3)))
        for table in ((X, X, Y), ((0, 0, 0),) * 3):
            self.assert_raises(Refused(("flat",)), led_row, 0, powers(2), table)
        self.assert_raises(Refused(("flat",)), led_row, 3, powers(2, 3), ((1, 1, 0), (2, 2, 0), Z))


if __name__ == "__main__":
    unittest.main()
