"""Lots modulo a prime and points off a lot: [4.1], [4.2], [4.4] to [4.6]."""

import itertools
import random
import unittest

from support import Checks, wrong_values
from test_lines import plain_triples, some_triples
from test_lots import BRAID, FIVE, GENERAL, PENCIL, X, Y, Z
from tangentrows.errors import InvalidLot, InvalidNumber, InvalidOperation, Refused, TooMany
from tangentrows.plane.lots import Lot
from tangentrows.plane.primes import all_lines, bad_primes, count_off, each_off, keeps_points, reduced

FINITE = (2, 3, 5, 7, 11, 13, 17, 19)
FAN = Lot(0, (X, Y, (1, 1, 0), (1, -1, 0), (1, 2, 0), Z, (1, 3, 1)))
PLUS = Lot(0, (X, Y, Z, (1, 1, 0), (1, 0, 1), (0, 1, 1), (1, 1, 1)))


def plain_modulo(prime, triple):
    """The normal triple over the prime of which the triple is a multiple, found among all."""
    for other in plain_triples(prime):
        if any(all((k * a - b) % prime == 0 for a, b in zip(other, triple)) for k in range(1, prime)):
            return other
    return None


def some_lots():
    source = random.Random(51)
    for many, most in ((1, 5), (4, 2), (6, 3), (13, 30), (5, 1000)):
        yield Lot(0, tuple(dict.fromkeys(some_triples(source, many, most))))
    yield from (BRAID, FIVE, FAN, PLUS, Lot(0, PENCIL[:5]), Lot(0, GENERAL[:6]))


class ReducedTest(Checks, unittest.TestCase):
    def test_reduced(self):
        for lot in some_lots():
            bad = []
            for prime in FINITE[:5]:
                lines = {line: plain_modulo(prime, line) for line in lot.lines}
                points = {plain_modulo(prime, point) for point in lot.points}
                pairs = [(one, other) for one, other in itertools.combinations(lot.lines, 2) if lines[one] == lines[other]]
                if pairs:
                    self.assert_raises(Refused(("fall", *min(pairs))), reduced, lot, prime)
                    self.assertIs(keeps_points(lot, prime), False)
                    bad.append(prime)
                    continue
                told = reduced(lot, prime)
                self.assertEqual(told, Lot(prime, tuple(lines.values())))
                self.assertLessEqual(told.rest, lot.rest)
                self.assertIs(keeps_points(lot, prime), len(points) == len(lot.points))
                self.assertEqual(keeps_points(lot, prime), told.rest == lot.rest)
                if told.rest != lot.rest:
                    bad.append(prime)
            self.assert_same(tuple(prime for prime in bad_primes(lot) if prime <= 11), tuple(bad))

    def test_all_bad_primes(self):
        whole = 2 * 3 * 5 * 7
        self.assert_same(bad_primes(Lot(0, ((1, 0, 0), (1, whole, 0)))), (2, 3, 5, 7))
        self.assert_same(bad_primes(Lot(0, ((11, 323, 0), Y))), (11,))
        self.assert_same(bad_primes(Lot(0, (Z, (13, 17, 1)))), ())
        self.assert_same(bad_primes(Lot(0, (Z, (0, 19, 1), (17, 0, 1)))), (17, 19))
        self.assert_same(bad_primes(Lot(0, (X,))), ())

    def test_the_least_pair(self):
        lot = Lot(0, ((0, 1, 0), (0, 1, 2), (1, 0, 0), (1, 2, 0), (1, 0, 2)))
        self.assert_raises(Refused(("fall", (0, 1, 0), (0, 1, 2))), reduced, lot, 2)
        lot = Lot(0, ((0, 0, 1), (0, 3, 1), (0, 6, 1), (0, 1, 0)))
        self.assert_raises(Refused(("fall", (0, 0, 1), (0, 3, 1))), reduced, lot, 3)
        lot = Lot(0, ((1, 0, 0), (1, 5, 0), (0, 1, 0), (0, 1, 5)))
        self.assert_raises(Refused(("fall", (0, 1, 0), (0, 1, 5))), reduced, lot, 5)
        lot = Lot(0, ((1, 0, 0), (1, 1, 0), (1, 5, 0), (1, 6, 0)))
        self.assert_raises(Refused(("fall", (1, 0, 0), (1, 5, 0))), reduced, lot, 5)

    def test_what_is_not_true(self):
        self.assertEqual(len(reduced(PLUS, 2)), 7)
        self.assertIs(keeps_points(PLUS, 2), False)
        self.assertEqual([point for point in PLUS.points if PLUS.number_at(point) == 2],
                         [point for point in PLUS.points if plain_modulo(2, point) == (1, 1, 1)])

    def test_errors(self):
        over = Lot(5, (X,))
        for lot in wrong_values():
            if not isinstance(lot, Lot):
                for call in (lambda: reduced(lot, 4), lambda: keeps_points(lot, 4), lambda: bad_primes(lot)):
                    self.assert_raises(InvalidLot, call)
        for prime in [*wrong_values(), 0]:
            for call in (reduced, keeps_points):
                self.assert_raises(InvalidNumber(prime), call, BRAID, prime)
                self.assert_raises(InvalidNumber(prime), call, over, prime)
        self.assert_raises(InvalidOperation, reduced, over, 5)
        self.assert_raises(InvalidOperation, keeps_points, over, 2)
        self.assert_raises(InvalidOperation, bad_primes, over)
        self.assertEqual(BRAID, Lot(0, BRAID.lines))


class OffTest(Checks, unittest.TestCase):
    def test_points_off(self):
        source = random.Random(52)
        for prime in (2, 3, 5, 7):
            triples = plain_triples(prime)
            for many in (1, 2, 3, 6, 13):
                lot = Lot(prime, tuple(source.sample(triples, min(many, len(triples)))))
                told = [point for point in triples
                        if all(sum(a * b for a, b in zip(point, line)) % prime for line in lot.lines)]
                self.assert_same(list(each_off(lot)), told)
                self.assert_same(count_off(lot), len(told))
        lot = Lot(19, ((1, 2, 3), (1, 18, 0), (0, 1, 5)))
        self.assertEqual(count_off(lot), len(list(each_off(lot))))

    def test_errors(self):
        for lot in wrong_values():
            if not isinstance(lot, Lot):
                self.assert_raises(InvalidLot, count_off, lot)
                made = each_off(lot)
                self.assert_raises(InvalidLot, next, made)
        self.assert_raises(InvalidOperation, count_off, BRAID)
        made = each_off(BRAID)
        self.assert_raises(InvalidOperation, next, made)

    def test_all_lines(self):
        for prime, many in ((2, 7), (3, 13)):
            lot = all_lines(prime)
            self.assertEqual([len(lot), list(lot), list(each_off(lot)), count_off(lot)], [many, plain_triples(prime), [], 0])
            self.assertEqual(lot.rest, prime ** 3)
        for prime in (5, 7, 11, 13, 17, 19):
            self.assert_raises(TooMany(13), all_lines, prime)
        for prime in [*wrong_values(), 0]:
            self.assert_raises(InvalidNumber(prime), all_lines, prime)


if __name__ == "__main__":
    unittest.main()
