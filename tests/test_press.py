"""Lots pressed on lines: [0.16], [0.17], [11.1] to [11.8] and their functions."""

import itertools
import random
import unittest

from support import Checks, wrong_values
from test_forms import some_form
from test_lines import NO_TRIPLES, plain_triples, some_triples
from test_lots import BRAID, FIVE, GENERAL, PENCIL, X, Y, Z
from test_pairs import constant, determinant, plus, read, times
from test_primes import FAN, PLUS
from test_rows import HUGE, TRI, powers, row, some_lots, some_mix, sum_at, zeros
from test_rows import times as row_times
from tangentrows.errors import (InvalidLine, InvalidLot, InvalidNumber, InvalidOperation, InvalidPair, InvalidPoint, InvalidRow, TooMany)
from tangentrows.form.forms import Form
from tangentrows.form.products import is_multiple, linear, product_of
from tangentrows.mark.pairs import degrees, is_pair
from tangentrows.plane.lines import meet
from tangentrows.plane.lots import Lot
from tangentrows.plane.primes import all_lines
from tangentrows.press import pairs as module
from tangentrows.press.lines import left_out, marks_on, spot_of, triples_on
from tangentrows.press.pairs import (are_two_pressed, bar_on, count_pressed, curve_of, degrees_on, gap, is_bar, is_curve, is_pressed, press,
                                     two_pressed)
from tangentrows.row.rows import plain, rows_of

FANO = all_lines(2)
ALL_SPOTS = {2: ((0, 1), (1, 0), (1, 1)), 3: ((0, 1), (1, 0), (1, 1), (1, 2))}


def kept(line):
    """The indices of the letters that a line keeps, and of the one that it leaves out."""
    out = max(at for at in range(3) if line[at])
    return *[at for at in range(3) if at != out], out


def some_lines(lot, source):
    """Lines of the lot, and others: through points of the lot, and through none."""
    if lot.prime:
        return plain_triples(lot.prime) if lot.prime < 5 else source.sample(plain_triples(lot.prime), 6) + list(lot.lines[:2])
    return [*lot.lines[:3], X, Z, (1, 1, 0), (1, 5, 7), (0, 1, 2), (1, 1, 1), (3, -2, 0), *some_triples(source, 2, 5)]


def off_lines(lot, source):
    return [line for line in some_lines(lot, source) if line not in lot]


def degree_of(lot, line, pair):
    """The degree of a pressed pair, None for zeros."""
    if line in lot:
        return max([form.degree for form in pair if form], default=None)
    return pair[1].degree if pair[1] else pair[0].degree - 1 if pair[0] else None


def is_plainly_pressed(lot, line, pair):
    """Whether a pair is pressed on a line outside of the lot, by [11.4]."""
    upper, under = pair
    for spot, triples in triples_on(lot, line).items():
        if len(triples) == 1:
            al, be, ga = triples[0]
            place = (be, -al % lot.prime if lot.prime else -al)
            value = upper.at(place) + ga * under.at(place)
            if value % lot.prime if lot.prime else value:
                return False
            continue
        step = linear(lot.prime, spot)
        for form, many in ((upper, 1), (under, len(triples) - 1)):
            if form and form.order_of(step) < many:
                return False
    return True


def forms_over(prime, degree):
    return [Form(prime, 2, {(degree - at, at): n for at, n in enumerate(numbers) if n})
            for numbers in itertools.product(range(prime), repeat=degree + 1)]


def any_pressed(source, lot, line, two, degree):
    """Some pressed pair of the degree."""
    total = (Form(lot.prime, 2), Form(lot.prime, 2))
    for one in two:
        if degree >= degree_of(lot, line, one):
            total = plus(total, times(one, some_form(source, lot.prime, 2, degree - degree_of(lot, line, one), 0.8)))
    return total


class LinesTest(Checks, unittest.TestCase):
    def test_left_out(self):
        for prime in (2, 3):
            for line in plain_triples(prime):
                self.assert_same(left_out(prime, line), kept(line)[2])
        self.assert_same([left_out(0, line) for line in ((1, 0, -5), (0, 0, 1), (0, 1, 0), (3, -2, 0), X, (1, 1000, 0))], [2, 2, 1, 1, 0, 1])

    def test_spots(self):
        for prime in (2, 3, 5):
            for line in plain_triples(prime):
                one, other, _ = kept(line)
                for point in plain_triples(prime):
                    if sum(a * b for a, b in zip(point, line)) % prime:
                        self.assert_raises(InvalidOperation, spot_of, prime, line, point)
                        continue
                    a, b = spot_of(prime, line, point)
                    self.assertEqual((a * point[one] + b * point[other]) % prime, 0)
                    self.assertEqual([n for n in (a, b) if n][0], 1)
        self.assert_same([spot_of(0, Z, (3, -1, 0)), spot_of(0, X, (0, 2, 4 - 1)), spot_of(0, (1, 1, 0), (1, -1, 5))], [(1, 3), (3, -2), (5, -1)])
        self.assert_same(spot_of(0, Z, (1, 10 ** 59, 0)), (10 ** 59, -1))

    def test_marks(self):
        for lot in (*some_lots(), Lot(0, GENERAL[:13]), Lot(0, PENCIL), all_lines(3)):
            for line in lot.lines[:5]:
                marks = marks_on(lot, line)
                self.assertEqual([marks.prime, marks.total], [lot.prime, lot.many - 1])
                told = {spot_of(lot.prime, line, point): lot.number_at(point) - 1 for point in lot.points_on(line)}
                self.assert_same(marks.counts, dict(sorted(told.items())))
        self.assert_same(marks_on(Lot(0, (X,)), X).counts, {})
        great = Lot(0, ((1, 1000, -999), (1000, -999, 1), (997, 1, -1000)))
        self.assertEqual(marks_on(great, (997, 1, -1000)).total, 2)

    def test_triples(self):
        source = random.Random(111)
        for lot in (*some_lots(), Lot(0, GENERAL[:13])):
            for line in off_lines(lot, source):
                found = triples_on(lot, line)
                one, other, out = kept(line)
                prime = lot.prime
                letters = [linear(prime, tuple(int(at == place) for at in range(3))) for place in (one, other)]
                self.assert_same(list(found), sorted(found))
                self.assertEqual(sum(len(triples) for triples in found.values()), lot.many)
                lines = []
                for spot, triples in found.items():
                    self.assert_same(triples, tuple(sorted(triples)))
                    for al, be, ga in triples:
                        whole = letters[0] * al + letters[1] * be + linear(prime, line) * ga
                        told = [further for further in lot.lines if whole == linear(prime, further) * line[out]]
                        self.assertEqual(len(told), 1)
                        lines += told
                        self.assert_same(spot_of(prime, line, meet(prime, line, told[0])), spot)
                self.assertEqual(sorted(lines), list(lot.lines))

    def test_errors(self):
        for prime in wrong_values():
            self.assert_raises(InvalidNumber(prime), left_out, prime, None)
            self.assert_raises(InvalidNumber(prime), spot_of, prime, None, None)
        for line in (*NO_TRIPLES, (1, 1001, 0)):
            self.assert_raises(InvalidLine, left_out, 0, line)
            self.assert_raises(InvalidLine, spot_of, 0, line, None)
            self.assert_raises(InvalidLine, marks_on, BRAID, line)
            self.assert_raises(InvalidLine, triples_on, BRAID, line)
        for point in NO_TRIPLES:
            self.assert_raises(InvalidPoint, spot_of, 0, X, point)
        self.assert_raises(InvalidOperation, spot_of, 0, X, (1, 0, 0))
        self.assert_raises(InvalidOperation, marks_on, BRAID, (1, 1, 1))
        self.assert_raises(InvalidOperation, triples_on, BRAID, X)
        for value in wrong_values():
            if not isinstance(value, Lot):
                self.assert_raises(InvalidLot, marks_on, value, None)
                self.assert_raises(InvalidLot, triples_on, value, None)
        told = triples_on(FIVE, (0, 1, 2))
        told.clear()
        self.assertEqual(len(triples_on(FIVE, (0, 1, 2))), 3)


class PressedTest(Checks, unittest.TestCase):
    def test_constant(self):
        self.assert_same(module.MAX_PRESSED, 14)

    def test_all_small_pairs(self):
        lots = (Lot(2, (X,)), Lot(2, (X, Y)), Lot(2, (X, Y, (1, 1, 0))), Lot(2, (X, Y, Z, (1, 1, 1))), Lot(2, (X, Y, Z, (1, 1, 0), (1, 0, 1))))
        for lot in lots:
            for line in plain_triples(2):
                for degree in (0, 1, 2):
                    more = 0 if line in lot else 1
                    found = 0
                    for pair in itertools.product(forms_over(2, degree + more), forms_over(2, degree)):
                        told = is_pressed(lot, line, pair)
                        self.assertIs(told, is_pair(marks_on(lot, line), pair) if line in lot else is_plainly_pressed(lot, line, pair))
                        found += told
                    self.assertEqual(found, 2 ** count_pressed(lot, line, degree))
        lot = Lot(3, (X, Y, (1, 2, 0), (0, 1, 1)))
        for line in plain_triples(3)[::2]:
            for degree in (0, 1):
                pairs = itertools.product(forms_over(3, degree + (line not in lot)), forms_over(3, degree))
                self.assertEqual(sum(is_pressed(lot, line, pair) for pair in pairs), 3 ** count_pressed(lot, line, degree))

    def test_pressed_by_definition(self):
        source = random.Random(112)
        for lot in some_lots():
            for line in off_lines(lot, source):
                two = two_pressed(lot, line)
                for degree in (0, 1, 2, 5):
                    for pair in (any_pressed(source, lot, line, two, degree),
                                 (some_form(source, lot.prime, 2, degree + 1), some_form(source, lot.prime, 2, degree))):
                        self.assertIs(is_pressed(lot, line, pair), is_plainly_pressed(lot, line, pair))
                self.assertIs(is_pressed(lot, line, any_pressed(source, lot, line, two, lot.many)), True)

    def test_pairs_of_great_degrees_and_numbers(self):
        for line in (X, (1, 5, 7), (0, 1, 2), (1, -1, 0)):
            for value in two_pressed(FIVE, line):
                degree = degree_of(FIVE, line, value)
                for factor in (constant(0, HUGE), constant(0, 10 ** 3000 + 1), read("x - y").power(39 - degree), read("y").power(39 - degree)):
                    self.assertIs(is_pressed(FIVE, line, times(value, factor)), True)
                changed = plus(times(value, read("x").power(39 - degree)), (Form(0, 2), read("x^39")))
                self.assertIs(is_pressed(FIVE, line, changed), False)
        self.assertIs(is_pressed(Lot(0, (X,)), Z, (read("y^40"), read("0"))), False)
        self.assertIs(is_pressed(Lot(0, (X,)), Z, (read("0"), read("y^40"))), True)
        self.assertIs(is_pressed(Lot(0, (X,)), Z, (read("0"), read("xy^39"))), True)
        self.assertIs(is_pressed(Lot(0, (X,)), Z, (read("x^40"), read("0"))), True)

    def test_no_pairs(self):
        x, zero = read("x"), Form(0, 2)
        for line in (X, (1, 5, 7)):
            self.assertIs(is_pressed(FIVE, line, (zero, zero)), True)
            for value in (None, x, (), (x,), (zero, zero, zero), [zero, zero], (zero, 0), (zero, None), (Form(5, 2), Form(5, 2)),
                          (Form(0, 3), Form(0, 3)), (zero, Form(0, 3)), (x, read("y^3")), (x, Form(5, 2)), ((zero, zero),), "xy", (1, 1),
                          (read("x^9"), read("x^7")), (read("1"), zero), (read("1"), x)):
                self.assertIs(is_pressed(FIVE, line, value), False)
            for value in wrong_values():
                told = isinstance(value, tuple) and len(value) == 2 and isinstance(value[0], Form) and value[0].prime == 0
                self.assertIs(is_pressed(FIVE, line, value), told)

    def test_errors(self):
        calls = (lambda *told: is_pressed(*told, None), lambda *told: count_pressed(*told, None), degrees_on, gap, two_pressed,
                 lambda *told: are_two_pressed(*told, None), bar_on, lambda *told: is_bar(*told, None), lambda *told: press(*told, None),
                 lambda *told: curve_of(*told, None), lambda *told: is_curve(*told, None))
        for call in calls:
            for value in wrong_values():
                if not isinstance(value, Lot):
                    self.assert_raises(InvalidLot, call, value, None)
            for line in (*NO_TRIPLES, (1, 1001, 0)):
                self.assert_raises(InvalidLine, call, BRAID, line)
            self.assert_raises(InvalidLine, call, FANO, (1, 2, 0))
        for degree in (-1, 15, True, False, None, "1", (1,), [], {}, 10 ** 60):
            self.assert_raises(InvalidNumber(degree), count_pressed, BRAID, X, degree)
            self.assert_raises(InvalidNumber(degree), count_pressed, BRAID, (1, 5, 7), degree)


class DegreesTest(Checks, unittest.TestCase):
    def test_the_product_and_the_rest(self):
        source = random.Random(113)
        for lot in (*some_lots(), *[Lot(prime, tuple(source.sample(plain_triples(prime), many))) for prime in (2, 3) for many in (3, 5, 7, 7)]):
            found = set()
            for line in some_lines(lot, source):
                low, high = degrees_on(lot, line)
                self.assertTrue(0 <= low <= high and low + high == lot.many - 1)
                self.assert_same(gap(lot, line), lot.rest - low * high)
                self.assertGreaterEqual(gap(lot, line), 0)
                found.add((gap(lot, line) == 0, (low, high)))
                if line in lot:
                    self.assertEqual((low, high), degrees(marks_on(lot, line)))
                self.assertEqual([count_pressed(lot, line, k) for k in range(15)],
                                 [max(0, k - low + 1) + max(0, k - high + 1) for k in range(15)])
            self.assertEqual(len({zero for zero, _ in found}), 1, lot.lines)
            if any(zero for zero, _ in found):
                self.assertEqual(len(found), 1)

    def test_all_lines_over_small_primes(self):
        source = random.Random(114)
        told = {True: 0, False: 0}
        for prime in (2, 3, 5):
            for many in (4, 5, 6, 7):
                for _ in range(3):
                    lot = Lot(prime, tuple(source.sample(plain_triples(prime), many)))
                    gaps = [gap(lot, line) for line in plain_triples(prime)]
                    self.assertTrue(min(gaps) >= 0 and (min(gaps) > 0 or max(gaps) == 0))
                    told[max(gaps) == 0] += 1
        self.assertTrue(told[True] and told[False])

    def test_some_degrees(self):
        self.assertEqual([degrees_on(lot, X) for lot in (Lot(0, (X,)), Lot(0, (Y,)), Lot(0, (X, Y)), Lot(0, PENCIL), Lot(0, PENCIL[:5]))],
                         [(0, 0), (0, 0), (0, 1), (0, 12), (0, 4)])
        self.assertEqual([degrees_on(lot, Z) for lot in (Lot(0, (X,)), Lot(0, (X, Y)), Lot(0, PENCIL), TRI)], [(0, 0), (0, 1), (0, 12), (1, 1)])
        self.assertEqual([degrees_on(FAN, X), degrees_on(FAN, Z)], [(2, 4), (1, 5)])
        for line in plain_triples(3):
            self.assertEqual(degrees_on(all_lines(3), line), (3, 9))
        many = Lot(0, GENERAL[:13])
        self.assertEqual([degrees_on(many, many.lines[0]), degrees_on(many, (1, 5, 7))], [(1, 11), (6, 6)])

    def test_what_is_not_true(self):
        # [0.21]: the pressed degrees need not be the same on all lines.
        self.assertNotEqual(degrees_on(FAN, X), degrees_on(FAN, Z))


class TwoTest(Checks, unittest.TestCase):
    def product_on(self, lot, line):
        if line in lot:
            return marks_on(lot, line).product
        forms = [linear(lot.prime, spot) for spot, triples in triples_on(lot, line).items() for _ in triples]
        return product_of(lot.prime, 2, tuple(forms))

    def test_two_pressed(self):
        source = random.Random(115)
        for lot in some_lots():
            for line in some_lines(lot, source):
                one, other = two_pressed(lot, line)
                self.assertEqual((degree_of(lot, line, one), degree_of(lot, line, other)), degrees_on(lot, line))
                self.assertTrue(is_pressed(lot, line, one) and is_pressed(lot, line, other))
                self.assertIs(is_multiple(determinant(one, other), self.product_on(lot, line)), True)
                self.assertIs(are_two_pressed(lot, line, (one, other)), True)
                self.assertIs(are_two_pressed(lot, line, (other, one)), True)

    def test_other_twos(self):
        source = random.Random(116)
        for lot in (BRAID, FIVE, FAN, Lot(0, (X, Y)), Lot(0, (X,)), FANO, Lot(5, (X, Y, Z, (1, 1, 1), (1, 2, 3)))):
            for line in some_lines(lot, source)[:7]:
                one, other = two_pressed(lot, line)
                low, high = degrees_on(lot, line)
                prime = lot.prime
                x = Form(prime, 2, {(1, 0): 1})
                more = some_form(source, prime, 2, high - low)
                changed = plus(times(other, constant(prime, -HUGE if prime == 0 else 1)), times(one, more))
                for value in ((one, changed), (changed, one), (times(one, constant(prime, HUGE if prime == 0 else 1)), other)):
                    self.assertIs(are_two_pressed(lot, line, value), True)
                zero = (Form(prime, 2), Form(prime, 2))
                for value in ((one, one), (one, times(one, more)), (one, zero), (zero, zero), (zero, other), (one, times(other, x)),
                              (times(one, x), other), (one,), (one, other, zero), [one, other], (one, None), (one, other[0]), None, one):
                    self.assertIs(are_two_pressed(lot, line, value), False)
        for value in wrong_values():
            self.assertIs(are_two_pressed(FIVE, X, value), False)
            self.assertIs(are_two_pressed(FIVE, (1, 5, 7), value), False)

    def test_bars(self):
        source = random.Random(117)
        for lot in (*some_lots(), PLUS):
            for line in some_lines(lot, source):
                two, bar = two_pressed(lot, line), bar_on(lot, line)
                free = gap(lot, line) == 0
                self.assertEqual(bar is None, free)
                self.assertIs(is_bar(lot, line, two), not free)
                self.assertIs(is_bar(lot, line, two[::-1]), not free)
                if not free:
                    self.assertIs(is_bar(lot, line, bar), True)
                    self.assertIs(are_two_pressed(lot, line, bar), True)
                    self.assertTrue(all(abs(number) < 10 ** 4000 for pair in bar for form in pair for _, number in form))
                self.assertIs(is_bar(lot, line, (two[0], two[0])), False)
                self.assertIs(is_bar(lot, line, None), False)
        for value in wrong_values():
            self.assertIs(is_bar(FIVE, X, value), False)
            self.assertIs(is_bar(FIVE, (1, 5, 7), value), False)

    def test_great_lots(self):
        source = random.Random(118)
        lot = Lot(0, tuple(some_triples(source, 13, 1000)))
        for line in (lot.lines[5], *some_triples(source, 2, 1000), (999, -1000, 997)):
            two = two_pressed(lot, line)
            self.assertIs(is_bar(lot, line, two), True)
            self.assertTrue(all(abs(number) < 10 ** 4000 for pair in two for form in pair for _, number in form))


class PressTest(Checks, unittest.TestCase):
    def plain_press(self, lot, line, value, numbers):
        """The values of the pressed pair at x and y, by [11.7]."""
        prime = lot.prime
        one, other, out = kept(line)
        point = [0, 0, 0]
        point[one], point[other] = line[out] * numbers[0], line[out] * numbers[1]
        point[out] = -line[one] * numbers[0] - line[other] * numbers[1]
        point = tuple(n % prime if prime else n for n in point)
        if line in lot:
            factor = sum_at(line, value).over(linear(prime, line))
            value = tuple(form - letter * factor for form, letter in zip(value, plain(prime)))
            found = value[one].at(point), value[other].at(point)
        else:
            found = numbers[0] * value[other].at(point) - numbers[1] * value[one].at(point), sum_at(line, value).at(point)
        return tuple(n % prime if prime else n for n in found)

    def test_pressed_rows(self):
        source = random.Random(119)
        for lot in some_lots():
            for line in some_lines(lot, source):
                for degree in (0, 1, 3):
                    value = some_mix(source, lot, degree)
                    told = press(lot, line, value)
                    self.assertIs(is_pressed(lot, line, told), True)
                    self.assertIn(degree_of(lot, line, told), (None, degree))
                    for _ in range(3):
                        numbers = tuple(source.randint(0, (lot.prime or 5) - 1) for _ in range(2))
                        self.assertEqual(tuple(form.at(numbers) for form in told), self.plain_press(lot, line, value, numbers))
                zero = (Form(lot.prime, 2), Form(lot.prime, 2))
                self.assertEqual(press(lot, line, plain(lot.prime)), zero)
                self.assertEqual(press(lot, line, zeros(lot.prime)), zero)

    def test_free_rows_are_pressed(self):
        two = powers(2), powers(3)
        for line in (*BRAID.lines, (1, 1, 0), (1, 5, 7), (1, 1, 1), (0, 1, 2)):
            self.assertIs(are_two_pressed(BRAID, line, tuple(press(BRAID, line, one) for one in two)), True)
        for one in rows_of(FIVE, 3):
            self.assertIs(is_pressed(FIVE, (1, 5, 7), press(FIVE, (1, 5, 7), one)), True)

    def test_great_rows(self):
        for line in BRAID.lines:
            told = press(BRAID, line, powers(40))
            self.assertIs(is_pressed(BRAID, line, told), True)
            self.assertIn(degree_of(BRAID, line, told), (None, 40))
        for line in ((1, 1, 0), (1, 5, 7)):
            self.assert_raises(TooMany(40), press, BRAID, line, powers(40))
            self.assert_raises(TooMany(40), press, BRAID, line, tuple(letter * Form(0, 3, {(39, 0, 0): 1}) for letter in plain(0)))
            # On some lines the two forms of which the first one is made are zero.
            third = product_of(0, 3, tuple(linear(0, one) for one in (Z, (1, 0, -1), (0, 1, -1)))) * Form(0, 3, {(37, 0, 0): 1})
            self.assert_raises(TooMany(40), press, BRAID, line, (Form(0, 3), Form(0, 3), third))
            value = row_times(powers(2), Form(0, 3, {(1, 0, 36): HUGE % 10 ** 59}))
            self.assertIs(is_pressed(BRAID, line, press(BRAID, line, value)), True)

    def test_errors(self):
        for line in (X, (1, 5, 7)):
            for value in (*wrong_values(), row("x", "0", "0"), list(powers(2)), powers(2)[:2], powers(2, 5), row("y^40", "x^40", "0")):
                self.assert_raises(InvalidRow, press, BRAID, line, value)


class CurveTest(Checks, unittest.TestCase):
    def lots_and_lines(self):
        source = random.Random(120)
        for lot in some_lots():
            for line in off_lines(lot, source):
                yield lot, line, max(len(triples) for triples in triples_on(lot, line).values())

    def test_curves(self):
        source = random.Random(121)
        for lot, line, most in self.lots_and_lines():
            two = two_pressed(lot, line)
            for value in (*two, any_pressed(source, lot, line, two, lot.many)):
                degree = degree_of(lot, line, value)
                if most > 2:
                    self.assert_raises(InvalidOperation, curve_of, lot, line, value) if degree is not None else None
                    self.assert_raises(InvalidOperation, is_curve, lot, line, None)
                    continue
                if degree is None:
                    continue
                told = curve_of(lot, line, value)
                prime = lot.prime
                x, y, z = (Form(prime, 3, {place: 1}) for place in ((1, 0, 0), (0, 1, 0), (0, 0, 1)))
                self.assertEqual(told, value[0].led((y, -x)) + z * value[1].led((y, -x)))
                self.assertEqual(told.degree, degree + 1)
                self.assertIs(is_curve(lot, line, told), True)
                self.assertIs(is_curve(lot, line, told * (z + x)), told * (z + x) == Form(prime, 3) or not value[1])
                self.assertIs(is_curve(lot, line, told * (y + x)), True)

    def test_the_curves_are_those_of_the_pairs(self):
        for lot, line in ((Lot(2, (X, Y)), Z), (Lot(2, (X, Y, Z)), (1, 1, 1)), (Lot(2, (X, Y)), (1, 1, 0)), (Lot(3, (X,)), (1, 0, 1))):
            for degree in (0, 1):
                prime = lot.prime
                found = 0
                for value in itertools.product(forms_over(prime, degree + 1), forms_over(prime, degree)):
                    x, y, z = (Form(prime, 3, {place: 1}) for place in ((1, 0, 0), (0, 1, 0), (0, 0, 1)))
                    curve = value[0].led((y, -x)) + z * value[1].led((y, -x))
                    told = is_pressed(lot, line, value) and bool(curve)
                    self.assertIs(is_curve(lot, line, curve), told)
                    found += told
                self.assertEqual(found, prime ** count_pressed(lot, line, degree) - 1)

    def test_no_curves(self):
        line = (1, 5, 7)
        curve = curve_of(FIVE, line, two_pressed(FIVE, line)[0])
        self.assertIs(is_curve(FIVE, line, curve), True)
        for value in (*wrong_values(), Form(0, 3), curve * Form(0, 3, {(0, 0, 1): 1}), Form(0, 3, {(1, 0, 0): 1}), (curve,), str(curve),
                      Form(0, 3, {(0, 0, 0): 5}), Form(0, 3, {(0, 0, 40): 1})):
            self.assertIs(is_curve(FIVE, line, value), False)
        great = curve * Form(0, 3, {(40 - curve.degree, 0, 0): HUGE % 10 ** 59})
        self.assertIs(is_curve(FIVE, line, great), True)
        self.assertIs(is_curve(FIVE, line, great + Form(0, 3, {(40, 0, 0): 1})), False)

    def test_errors(self):
        line, zero = (1, 5, 7), (Form(0, 2), Form(0, 2))
        for value in (*wrong_values(), zero, list(zero), (read("x"), read("0"))):
            for further in (line, X, (1, 0, 5)):
                self.assert_raises(InvalidPair, curve_of, FIVE, further, value)
        for value in wrong_values():
            self.assert_raises(InvalidOperation, is_curve, FIVE, X, value)
            self.assert_raises(InvalidOperation, is_curve, BRAID, (1, 1, 0), value)
        self.assertEqual(max(len(triples) for triples in triples_on(BRAID, (1, 1, 0)).values()), 3)
        self.assert_raises(InvalidOperation, curve_of, BRAID, (1, 1, 0), two_pressed(BRAID, (1, 1, 0))[0])
        self.assert_raises(InvalidOperation, curve_of, FIVE, X, two_pressed(FIVE, X)[0])
        lot = Lot(0, (X,))
        self.assert_raises(TooMany(40), curve_of, lot, Z, (read("0"), read("xy^39")))
        self.assertEqual(curve_of(lot, Z, (read("x^40"), read("0"))), Form(0, 3, {(0, 40, 0): 1}))
        self.assertEqual(curve_of(lot, Z, (read("0"), read("xy^38"))), Form(0, 3, {(38, 1, 1): 1}))
        bundle = Lot(0, PENCIL[:3])
        self.assert_raises(InvalidOperation, curve_of, bundle, (0, 1, 0), (read("0"), read("x^39y")))


if __name__ == "__main__":
    unittest.main()
