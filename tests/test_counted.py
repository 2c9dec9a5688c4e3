"""Lots whose lines count more than once: [16.1] to [16.8] and their functions."""

import itertools
import random
import unittest

from support import Checks, outcome, wrong_values
from test_deeds import ONE
from test_forms import some_form
from test_free import FANO, terms
from test_generators import small_lots
from test_lines import NO_TRIPLES, plain_triples
from test_lots import BRAID, FIVE, GENERAL, PENCIL, X, Y, Z
from test_primes import FAN, PLUS
from test_rows import HUGE, TRI, degree_of, flat, number3, plus, powers, read, row, sum_at, times, zeros
from tangentrows.base.numbers import normal
from tangentrows.base.tables import echelon_of, rank_of
from tangentrows.count import counted as module
from tangentrows.count.counted import (are_counted_free, count_counted, counted_paper, counted_rows, euler_marks, is_counted_row,
                                       local_degrees, local_marks, lowered_counts, sum_of_products)
from tangentrows.errors import InvalidLine, InvalidLot, InvalidNumber, InvalidOperation, InvalidPoint, TooMany
from tangentrows.form.forms import Form
from tangentrows.form.products import determinant_of, is_multiple, linear
from tangentrows.free.free import degrees_of, is_free
from tangentrows.mark.marks import Marks
from tangentrows.mark.pairs import degrees
from tangentrows.plane.lines import is_on
from tangentrows.plane.lots import Lot
from tangentrows.press.lines import spot_of
from tangentrows.row.rows import count_rows, plain, rows_of

SOME = {X: 2, Y: 1, Z: 3}
GENERIC = Lot(0, (X, Y, Z, (1, 1, 1)))
# Each call behind a lot and counts, with further arguments that are right for BRAID.
CALLS = ((is_counted_row, (None,)), (count_counted, (2,)), (counted_rows, (2,)), (are_counted_free, (None,)), (counted_paper, ()),
         (local_marks, (Z,)), (local_degrees, (Z,)), (sum_of_products, ()), (lowered_counts, (X,)), (euler_marks, (X,)))


def ones(lot):
    return {line: 1 for line in lot.lines}


def some_counts(source, lot):
    """Counts from 1 to 3 that add up to at most 10."""
    counts = ones(lot)
    for _ in range(source.randint(0, 10 - lot.many)):
        line = source.choice(lot.lines)
        if counts[line] < 3:
            counts[line] += 1
    return counts


def counted_lots(seed):
    source = random.Random(seed)
    for lot in small_lots():
        if lot.prime or max(abs(number) for line in lot for number in line) <= 20:
            yield lot, ones(lot)
            yield lot, some_counts(source, lot)
    for lot in (BRAID, TRI, GENERIC, FIVE, Lot(0, PENCIL[:3] + (Z,)), Lot(2, FANO.lines[:4]), Lot(3, (X, Y, Z, (1, 1, 0))), ONE):
        for _ in range(3):
            yield lot, some_counts(source, lot)


def is_plainly_counted(lot, counts, value):
    """Tangent by the words of [16.2]."""
    for line, count in counts.items():
        form = sum_at_any(lot.prime, line, value)
        if form and form.order_of(linear(lot.prime, line)) < count:
            return False
    return True


def sum_at_any(prime, line, value):
    return sum_at([number % prime if prime else number for number in line], value)


def counted_degrees(lot, counts):
    paper = counted_paper(lot, counts)
    return None if paper is None else tuple(sorted(degree_of(one) for one in paper))


def product_sum(degrees3):
    a, b, d = degrees3
    return a * b + a * d + b * d


class RowsTest(Checks, unittest.TestCase):
    def test_constants(self):
        self.assert_same([module.MAX_LINES, module.MAX_TOTAL, module.MAX_DEGREE, module.MAX_ENTRY], [6, 10, 4, 20])

    def test_rows(self):
        for lot, counts in counted_lots(191):
            for degree in range(5):
                rows = counted_rows(lot, counts, degree)
                self.assertTrue(type(rows) is tuple and len(rows) == count_counted(lot, counts, degree))
                self.assertTrue(all(is_plainly_counted(lot, counts, one) and is_counted_row(lot, counts, one) for one in rows))
                numbers = [flat(one, degree) for one in rows]
                self.assertEqual(list(echelon_of(lot.prime, numbers)), numbers)
                if set(counts.values()) == {1}:
                    self.assertEqual(rows, rows_of(lot, degree))
                    self.assertEqual(len(rows), count_rows(lot, degree))

    def test_all_rows_over_small_primes(self):
        for prime, lines, degree in ((2, (X, Y), 1), (2, (X, Y, (1, 1, 0)), 1), (2, (X, Y, Z), 1), (3, (X,), 0), (3, (Z, (1, 1, 1)), 0),
                                     (5, (X, Y), 0)):
            source = random.Random(192)
            lot = Lot(prime, lines)
            places = ((1, 0, 0), (0, 1, 0), (0, 0, 1)) if degree else ((0, 0, 0),)
            for counts in (ones(lot), some_counts(source, lot), {**ones(lot), lines[0]: 2}):
                many = 0
                for numbers in itertools.product(range(prime), repeat=3 * len(places)):
                    value = tuple(Form(prime, 3, {place: number for place,
                                                  number in zip(places, numbers[at::3]) if number}) for at in range(3))
                    expected = is_plainly_counted(lot, counts, value)
                    self.assertIs(is_counted_row(lot, counts, value), expected)
                    many += expected
                self.assertEqual(many, prime ** count_counted(lot, counts, degree))

    def test_what_is_a_row(self):
        source = random.Random(193)
        for lot, counts in counted_lots(194):
            prime = lot.prime
            self.assertIs(is_counted_row(lot, counts, zeros(prime)), True)
            self.assertIs(is_counted_row(lot, counts, plain(prime)), max(counts.values()) == 1)
            for degree in range(4):
                value = tuple(some_form(source, prime, 3, degree, 0.7) for _ in range(3))
                self.assertIs(is_counted_row(lot, counts, value), is_plainly_counted(lot, counts, value))
                for one in counted_rows(lot, counts, degree)[:3]:
                    great = times(one, number3(prime, HUGE if prime == 0 else 1))
                    self.assertIs(is_counted_row(lot, counts, great), True)
                    self.assertIs(is_counted_row(lot, counts, plus(great, value)), is_plainly_counted(lot, counts, value))
        self.assertIs(is_counted_row(TRI, SOME, row("x^40", "y^40", "z^40")), True)
        self.assertIs(is_counted_row(TRI, SOME, row("x^40", "x^40", "z^40")), False)
        self.assertIs(is_counted_row(TRI, SOME, row("x^2", "0", "0")), True)
        self.assertIs(is_counted_row(TRI, SOME, row("x", "0", "0")), False)
        self.assertIs(is_counted_row(TRI, SOME, times(row("x^2", "y^2", "z^3")[:2] + (read("0"),), number3(0, HUGE))), True)
        for value in (*wrong_values(), list(zeros(0)), zeros(5), zeros(0)[:2], (read("x"), read("y^2"), read("0"))):
            if not isinstance(value, tuple) or value != (Form(0, 3, {(1, 0, 0): 1}), Form(0, 3), Form(0, 3)):
                self.assertIs(is_counted_row(TRI, SOME, value), False)


class FreeTest(Checks, unittest.TestCase):
    def test_papers(self):
        told = {True: 0, False: 0}
        for lot, counts in counted_lots(195):
            paper = counted_paper(lot, counts)
            total = sum(counts.values())
            told[paper is None] += 1
            if paper is None:
                continue
            self.assertTrue(type(paper) is tuple and len(paper) == 3)
            self.assertTrue(all(is_plainly_counted(lot, counts, one) for one in paper))
            product = number3(lot.prime, 1)
            for line, count in counts.items():
                product = product * linear(lot.prime, line).power(count)
            self.assertIs(is_multiple(determinant_of(paper), product), True)
            found = counted_degrees(lot, counts)
            self.assertEqual(sum(found), total)
            self.assertLessEqual(found[2], 4)
            for order in itertools.permutations(paper):
                self.assertIs(are_counted_free(lot, counts, order), True)
            # [16.3]: the numbers of rows in each degree, and [16.5]
            self.assertEqual([count_counted(lot, counts, k) for k in range(5)], [sum(terms(k - d) for d in found) for k in range(5)])
            self.assertEqual(sum_of_products(lot, counts), product_sum(found))
        self.assertGreater(min(told.values()), 10)

    def test_there_is_a_paper(self):
        # Without a paper there are more than three rows that cannot be left out, or their determinant is zero.
        for lot, counts in itertools.islice(counted_lots(196), 0, None, 3):
            if counted_paper(lot, counts) is None:
                needed, lower = [], ()
                for degree in range(5):
                    told = [times(one, read(letter, lot.prime)) for letter in "xyz" for one in lower]
                    for one in counted_rows(lot, counts, degree):
                        if self.rank(lot, (*told, one), degree) > self.rank(lot, told, degree):
                            needed.append(one)
                            told.append(one)
                    lower = counted_rows(lot, counts, degree)
                if len(needed) == 3 and sum(degree_of(one) for one in needed) == sum(counts.values()):
                    self.assertFalse(determinant_of(tuple(needed)))
        self.assertIsNone(counted_paper(GENERIC, {**ones(GENERIC), X: 3}))

    def rank(self, lot, rows, degree):
        return rank_of(lot.prime, [flat(one, degree) for one in rows])

    def test_all_lines_count_once(self):
        for lot, counts in counted_lots(205):
            if counts == ones(lot):
                pair = degrees_of(lot)
                expected = None if pair is None or max(pair) > 4 else tuple(sorted((1, *pair)))
                self.assertEqual(counted_degrees(lot, counts), expected)
        self.assertEqual(counted_degrees(Lot(0, PENCIL[:6]), ones(Lot(0, PENCIL[:6]))), None)
        self.assertEqual([is_free(Lot(0, PENCIL[:6])), counted_degrees(Lot(0, PENCIL[:5]), ones(Lot(0, PENCIL[:5])))], [True, (0, 1, 4)])

    def test_some(self):
        self.assertEqual(counted_degrees(TRI, SOME), (1, 2, 3))
        self.assertEqual(counted_degrees(TRI, {X: 3, Y: 3, Z: 3}), (3, 3, 3))
        self.assertEqual([counted_degrees(ONE, {X: count}) for count in (1, 2, 3)], [(0, 0, 1), (0, 0, 2), (0, 0, 3)])
        self.assertEqual(counted_degrees(BRAID, {**ones(BRAID), X: 2}), (2, 2, 3))
        # Free, but with a degree above 4: three rows show it.
        pencil = Lot(0, PENCIL[:4])
        counts = {line: 2 for line in pencil}
        counts[PENCIL[0]] = 3
        self.assertEqual([sum(counts.values()), counted_degrees(pencil, counts)], [9, None])
        self.assertIsNone(counted_paper(Lot(0, PENCIL[:6]), ones(Lot(0, PENCIL[:6]))))
        lot = Lot(0, PENCIL[:6])
        product = lot.product
        value = (plain(0), row("0", "0", "1"), (product.slope("y"), -product.slope("x"), read("0")))
        self.assertIs(are_counted_free(lot, ones(lot), value), True)

    def test_what_papers_are(self):
        source = random.Random(197)
        for lot, counts in ((TRI, SOME), (BRAID, {**ones(BRAID), X: 2}), (Lot(5, TRI.lines), SOME), (ONE, {X: 3})):
            prime, paper = lot.prime, counted_paper(lot, counts)
            one, other, third = sorted(paper, key=degree_of)
            changed = plus(times(third, number3(prime, HUGE if prime == 0 else 2)),
                           times(one, some_form(source, prime, 3, degree_of(third) - degree_of(one))))
            self.assertIs(are_counted_free(lot, counts, (changed, one, other)), True)
            x = read("x", prime)
            for value in ((one, other), (one, other, one), (one, other, times(third, x)), (one, other, zeros(prime)), (*paper, one),
                          list(paper),
                          (one, other, list(third)), (one, other, None), (one, other, plain(prime)), (zeros(prime),) * 3, paper[:2],
                          one, (paper,),
                          (one, times(one, some_form(source, prime, 3, degree_of(other) - degree_of(one))), third), *wrong_values()):
                self.assertIs(are_counted_free(lot, counts, value), False)
        self.assertIs(are_counted_free(TRI, SOME, (row("x^2", "0", "0"), row("0", "y", "0"), row("0", "0", "z^3"))), True)
        self.assertIs(are_counted_free(TRI, SOME, (row("x^3", "0", "0"), row("0", "y", "0"), row("0", "0", "z^2"))), False)
        self.assertIs(are_counted_free(TRI, ones(TRI), (row("x", "0", "0"), row("0", "y", "0"), row("0", "0", "z"))), True)
        self.assertIs(are_counted_free(TRI, SOME, (powers(40), powers(40), powers(40))), False)

    def test_what_is_not_true(self):
        # [16.8]
        counts = {**ones(BRAID), X: 2, (0, 1, -1): 2}
        total, found = sum(counts.values()), sum_of_products(BRAID, counts)
        self.assertEqual([counted_paper(BRAID, counts), total, is_free(BRAID)], [None, 8, True])
        self.assertFalse([(a, b) for a in range(9) for b in range(9 - a) if product_sum((a, b, 8 - a - b)) == found])
        counts = {X: 3, Y: 1, Z: 1, (1, 1, 1): 1}
        self.assertEqual([sum_of_products(GENERIC, counts), product_sum((2, 2, 2)), counted_paper(GENERIC, counts)], [12, 12, None])
        # No row has a degree below 2, so the degrees would be 2, 2 and 2; but three such rows have the determinant zero.
        self.assertEqual([count_counted(GENERIC, counts, k) for k in range(3)], [0, 0, 3])
        self.assertFalse(determinant_of(counted_rows(GENERIC, counts, 2)))
        for prime, expected in ((0, (3, 3)), (2, (2, 4)), (3, (3, 3))):
            lot = Lot(prime, (X, Y, (1, 1, 0)))
            self.assertEqual(local_degrees(lot, {line: 2 for line in lot}, Z), expected)


class LocalTest(Checks, unittest.TestCase):
    def test_local_marks(self):
        source = random.Random(198)
        for lot, counts in counted_lots(199):
            prime = lot.prime
            points = list(lot.points) + [X, Y, Z, (1, 1, 1)] + (source.sample(plain_triples(prime), 5) if prime else [(1, 7, 0),
                (10 ** 59, 1, 3)])
            for point in points:
                out = max(at for at in range(3) if point[at])
                expected = {}
                for line in lot:
                    if is_on(prime, point, line):
                        left = [line[at] for at in range(3) if at != out]
                        expected[normal(prime, tuple(left))] = counts[line]
                found = local_marks(lot, counts, point)
                self.assertEqual(found, Marks(prime, expected))
                self.assert_same(local_degrees(lot, counts, point), degrees(found))
                if not expected:
                    self.assertEqual([len(found), local_degrees(lot, counts, point)], [0, (0, 0)])

    def test_sums(self):
        for lot, counts in counted_lots(200):
            found = sum_of_products(lot, counts)
            self.assert_same(found, sum(d * e for d, e in (local_degrees(lot, counts, point) for point in lot.points)))
            if set(counts.values()) == {1}:
                self.assertEqual(found, lot.second)

    def test_lowered(self):
        for lot, counts in counted_lots(201):
            for line in lot:
                found = lowered_counts(lot, counts, line)
                if counts[line] == 1 and lot.many == 1:
                    self.assertIsNone(found)
                    continue
                self.assertTrue(type(found) is tuple and len(found) == 2)
                less, told = found
                if counts[line] > 1:
                    self.assertEqual([less, told], [lot, {**counts, line: counts[line] - 1}])
                else:
                    self.assertEqual([less, told], [lot.without_line(line), {other: counts[other] for other in lot if other != line}])
                self.assert_same(list(told), sorted(told))
                told[line] = 99
                self.assertEqual(counts[line], {**counts}[line])
        self.assertIsNone(lowered_counts(ONE, {X: 1}, X))
        self.assertEqual(lowered_counts(ONE, {X: 2}, X), (ONE, {X: 1}))

    def test_the_order_of_a_dict_has_no_effect(self):
        back = dict(reversed(list(SOME.items())))
        for call, more in CALLS:
            self.assertEqual(call(TRI, SOME, *more), call(TRI, back, *more))
        self.assert_same(list(lowered_counts(TRI, back, X)[1]), [Z, Y, X])

    def test_euler_marks(self):
        for lot, counts in counted_lots(202):
            for line in lot:
                found = euler_marks(lot, counts, line)
                lowered = lowered_counts(lot, counts, line)
                expected = {}
                for point in lot.points_on(line):
                    before = list(local_degrees(lot, counts, point))
                    after = list(local_degrees(*lowered, point))
                    # One of both falls by 1, and the other one stays.
                    kept = [before[at] for at in (0, 1) if sorted([before[at], before[1 - at] - 1]) == after]
                    self.assertEqual(len(set(kept)), 1)
                    self.assertGreaterEqual(kept[0], 1)
                    expected[spot_of(lot.prime, line, point)] = kept[0]
                self.assertEqual(found, Marks(lot.prime, expected))
        self.assertEqual(euler_marks(ONE, {X: 1}, X), Marks(0, {}))
        self.assertEqual(euler_marks(ONE, {X: 3}, X), Marks(0, {}))

    def test_any_two_make_the_third(self):
        # [16.7]
        told = [0, 0, 0]
        for lot, counts in counted_lots(203):
            whole = counted_degrees(lot, counts)
            for line in lot:
                lowered = lowered_counts(lot, counts, line)
                if lowered is None:
                    continue
                less, pair = counted_degrees(*lowered), degrees(euler_marks(lot, counts, line))
                if whole and less:
                    falls = [at for at in range(3) if sorted((*whole[:at], *whole[at + 1:], whole[at] - 1)) == list(less)]
                    self.assertTrue(any(pair == whole[:at] + whole[at + 1:] for at in falls))
                    told[0] += 1
                if whole:
                    for at in range(3):
                        if whole[:at] + whole[at + 1:] == pair:
                            self.assertEqual(less, tuple(sorted((*pair, whole[at] - 1))))
                            told[1] += 1
                            break
                if less:
                    for at in range(3):
                        if less[:at] + less[at + 1:] == pair and less[at] < 4:
                            self.assertEqual(whole, tuple(sorted((*pair, less[at] + 1))))
                            told[2] += 1
                            break
        self.assertGreater(min(told), 50)
        twice = {**ones(BRAID), X: 2}
        self.assertEqual([degrees(euler_marks(BRAID, twice, X)), counted_degrees(BRAID, ones(BRAID)), counted_degrees(BRAID, twice)],
                         [(2, 3), (1, 2, 3), (2, 2, 3)])


class ErrorsTest(Checks, unittest.TestCase):
    def test_lots_and_counts(self):
        for call, more in CALLS:
            for value in wrong_values():
                if not isinstance(value, Lot):
                    self.assert_raises(InvalidLot, call, value, None, *more)
            wrong = (*wrong_values(), {X: 1, Y: 1}, {X: 1, Y: 1, Z: 1, (1, 1, 0): 1}, {X: 1, Y: 1, (1, 1, 0): 1}, {X: 1, Y: 1, Z: 4},
                     {X: 0, Y: 1, Z: 1},
                     {X: -1, Y: 1, Z: 1}, {X: True, Y: 1, Z: 1}, {X: None, Y: 1, Z: 1}, {X: "1", Y: 1, Z: 1}, {X: (1,), Y: 1, Z: 1}, {},
                     {(True, 0, 0): 1, Y: 1, Z: 1}, {(2, 0, 0): 1, Y: 1, Z: 1}, {"x": 1, Y: 1, Z: 1}, {None: 1, Y: 1, Z: 1},
                     [(X, 1), (Y, 1), (Z, 1)],
                     tuple(SOME.items()), {X: 10 ** 60, Y: 1, Z: 1}, {X: 3, Y: 3, Z: 4}, TRI.lines)
            for value in wrong:
                self.assert_raises(InvalidOperation, call, TRI, value, *more)
                self.assert_raises(InvalidOperation, call, TRI, value, *[[] for _ in more])
            # Ten are let, eleven are not.
            self.assertEqual(outcome(call, BRAID, {**ones(BRAID), X: 3, Y: 3}, *more)[0], "returned")
            self.assert_raises(InvalidOperation, call, BRAID, {**ones(BRAID), X: 3, Y: 3, Z: 2}, *more)

    def test_degrees(self):
        for call in (count_counted, counted_rows):
            for value in (*wrong_values(), 5, -1, 10 ** 60, "2"):
                if value not in (0, 1, 4) or isinstance(value, bool):
                    self.assert_raises(InvalidNumber(value), call, TRI, SOME, value)
                    # The degree comes ahead of the number of the lines.
                    self.assert_raises(InvalidNumber(value), call, PLUS, ones(PLUS), value)
            self.assertEqual(outcome(call, TRI, SOME, 4)[0], "returned")

    def test_points_and_lines(self):
        for value in NO_TRIPLES:
            for call in (local_marks, local_degrees):
                self.assert_raises(InvalidPoint, call, TRI, SOME, value)
                self.assert_raises(InvalidPoint, call, PLUS, ones(PLUS), value)
            for call in (lowered_counts, euler_marks):
                self.assert_raises(InvalidLine, call, TRI, SOME, value)
                self.assert_raises(InvalidLine, call, PLUS, ones(PLUS), value)
        for call in (lowered_counts, euler_marks):
            self.assert_raises(InvalidLine, call, TRI, SOME, (1, 1001, 0))
            for lot, counts in ((TRI, SOME), (FAN, ones(FAN)), (Lot(0, ((1, 21, 0), Y)), {(1, 21, 0): 1, Y: 1})):
                self.assert_raises(InvalidOperation, call, lot, counts, (1, 1, 1))
        self.assert_raises(InvalidPoint, local_marks, FANO, ones(FANO), (1, 2, 0))

    def test_lines_and_numbers(self):
        seven = Lot(0, GENERAL[:7])
        great, fit = Lot(0, ((1, 21, 0), Y, X)), Lot(0, ((1, 20, -20), Y, X))
        for call, more in CALLS:
            for lot in (PLUS, FAN, FANO, seven):
                value = (lot.lines[0],) if more == (X,) else more
                self.assert_raises(TooMany(6), call, lot, ones(lot), *value)
            for lot in (great, Lot(0, ((1, 0, -21), X)), Lot(0, ((1, 0, 1000), X))):
                self.assert_raises(TooMany(20), call, lot, ones(lot), *more)
            self.assertEqual(outcome(call, fit, ones(fit), *more)[0], "returned")
            self.assertEqual(outcome(call, Lot(19, (X, Y, (1, 18, 18))), {X: 1, Y: 2, (1, 18, 18): 3}, *more)[0], "returned")
            # Seven lines with great numbers, too: the number of the lines comes first.
            both = Lot(0, (*GENERAL[:6], (1, 500, 0)))
            value = (both.lines[0],) if more == (X,) else more
            self.assert_raises(TooMany(6), call, both, ones(both), *value)

    def test_values_stay(self):
        for call, more in CALLS:
            counts = dict(SOME)
            call(TRI, counts, *more)
            self.assert_same(list(counts.items()), list(SOME.items()))
            self.assertEqual(TRI, Lot(0, TRI.lines))


if __name__ == "__main__":
    unittest.main()
