"""Webs: [15.1] to [15.7], the class Web and the functions of webs."""

import inspect
import itertools
import random
import unittest

from support import Checks, outcome, wrong_values
from test_lots import BRAID, X, Y, Z
from tangentrows.errors import InvalidNumber, InvalidOperation, InvalidWeb, Refused
from tangentrows.free.free import degrees_of, is_free
from tangentrows.plane.lots import Lot
from tangentrows.web import webs as module
from tangentrows.web.webs import Web, each_web, is_order_of_points, open_ring, order_of_points, signed_lot, web_degrees

PRIMES = (0, 2, 3, 5, 7, 11, 13, 17, 19)
TIES = ((1, 2), (1, 3), (1, 4), (2, 3), (2, 4), (3, 4))
RING = Web(((1, 2), (3, 4), (2, 3), (1, 4)))
NO_TIES = (None, True, 1, "12", (), (1,), (1, 2, 3), [1, 2], (2, 1), (1, 1), (0, 1), (1, 5), (True, 2), (1, None), ("1", "2"),
           (1, 10 ** 60), {})
LETTERS = ((1, 2), (1, 3), (2, 3))


def all_ties():
    """The ties of all webs, in the order of [15.1] and of each_web."""
    for many in range(1, 7):
        yield from itertools.combinations(TIES, many)


def tied(ties, one, other):
    return tuple(sorted((one, other))) in ties


def plain_order(ties, order):
    """An order of the points by the words of [15.4]."""
    for at, point in enumerate(order):
        ahead = [other for other in order[:at] if tied(ties, point, other)]
        if not all(tied(ties, one, other) for one, other in itertools.combinations(ahead, 2)):
            return False
    return True


def plain_ring(ties):
    """The open ring that open_ring tells, by the words of [15.3]."""
    for b, c, d in itertools.permutations((2, 3, 4)):
        if b < d and all(tied(ties, *pair) for pair in ((1, b), (b, c), (c, d), (d, 1))):
            if not tied(ties, 1, c) and not tied(ties, b, d):
                return 1, b, c, d
    return None


def plain_line(prime, one, other):
    """The line of a tie, by the words of [15.2]."""
    numbers = [0, 0, 0]
    numbers[one - 1] = 1
    if other < 4:
        numbers[other - 1] = -1 if prime == 0 else prime - 1
    return tuple(numbers)


class WebTest(Checks, unittest.TestCase):
    def test_constant(self):
        self.assert_same(module.POINTS, (1, 2, 3, 4))

    def test_properties(self):
        source = random.Random(181)
        for ties in all_ties():
            web = Web(tuple(source.sample(ties, len(ties))))
            self.assert_same(web.ties, ties)
            self.assertEqual([len(web), list(web)], [len(ties), list(ties)])
            self.assert_same(str(web), "web " + " ".join(f"{one}-{other}" for one, other in ties))
            self.assertEqual(web, Web(ties))
            reached = {1}
            for _ in range(4):
                reached |= {b for a in reached for b in (1, 2, 3, 4) if tied(ties, a, b)}
            self.assertIs(web.is_whole, len(reached) == 4)
            for tie in TIES:
                self.assertIs(tie in web, tie in ties)
            self.assertFalse(any(value in web for value in (*NO_TIES, *wrong_values(), (1, True), (True, 2))))

    def test_wrong_ties(self):
        for value in (*wrong_values(), (), TIES + TIES[:1], ((1, 2), (1, 2)), [(1, 2)], (1, 2), ((1, 2), [1, 3]), {(1, 2): 1}, TIES * 2):
            self.assert_raises(InvalidWeb, Web, value)
        for value in NO_TIES:
            self.assert_raises(InvalidWeb, Web, (value,))
            self.assert_raises(InvalidWeb, Web, ((1, 2), value))

    def test_full(self):
        for many in (2, 3, 4):
            for points in itertools.combinations((1, 2, 3, 4), many):
                self.assertEqual(Web.full(points), Web(tuple(itertools.combinations(points, 2))))
        for value in (*wrong_values(), (), (1,), (2, 1), (1, 1), (1, 2, 5), (0, 1), (1, 3, 2), [1, 2], (1, 2, 3, 4, 5), (True, 2),
                      (1, None),
                      ("1", "2"), (1, 2, 3, 3), (1, (2,))):
            self.assert_raises(InvalidWeb, Web.full, value)

    def test_lots(self):
        for ties in all_ties():
            for prime in PRIMES:
                self.assertEqual(Web(ties).lot_over(prime), Lot(prime, tuple(plain_line(prime, *tie) for tie in ties)))
        self.assertEqual(Web(TIES).lot_over(0), BRAID)
        for value in (*wrong_values(), 1, 4, 6, 23, -2):
            if value not in PRIMES or isinstance(value, bool):
                self.assert_raises(InvalidNumber(value), RING.lot_over, value)

    def test_ties_more_and_less(self):
        for ties in all_ties():
            web = Web(ties)
            for tie in TIES:
                if tie in ties:
                    self.assert_raises(InvalidOperation, web.with_tie, tie)
                    if len(ties) == 1:
                        self.assert_raises(Refused(("last",)), web.without_tie, tie)
                    else:
                        self.assertEqual(web.without_tie(tie), Web(tuple(other for other in ties if other != tie)))
                else:
                    self.assertEqual(web.with_tie(tie), Web(ties + (tie,)))
                    self.assert_raises(InvalidOperation, web.without_tie, tie)
            self.assertEqual(web.ties, ties)
        for value in (*NO_TIES, *wrong_values()):
            for web in (RING, Web(((1, 2),)), Web(TIES)):
                self.assert_raises(InvalidOperation, web.with_tie, value)
                self.assert_raises(InvalidOperation, web.without_tie, value)

    def test_renamed(self):
        for ties in all_ties():
            web = Web(ties)
            for points in itertools.permutations((1, 2, 3, 4)):
                told = web.renamed(points)
                for h, k in itertools.combinations((1, 2, 3, 4), 2):
                    self.assertEqual(tied(told.ties, points[h - 1], points[k - 1]), tied(ties, h, k))
                self.assertEqual(web_degrees(told), web_degrees(web))
        self.assertEqual(Web(((1, 2), (3, 4))).renamed((3, 4, 1, 2)), Web(((1, 2), (3, 4))))
        self.assertEqual(Web(((1, 2),)).renamed((3, 1, 2, 4)), Web(((1, 3),)))
        for value in (*wrong_values(), (1, 2, 3), (1, 2, 3, 3), (1, 2, 3, 5), [1, 2, 3, 4], (1, 2, 3, 4, 4), (True, 2, 3, 4),
                      (0, 1, 2, 3),
                      (1, 2, 3, None), ("1", 2, 3, 4), (1, 2, 3, (4,))):
            self.assert_raises(InvalidOperation, RING.renamed, value)

    def test_equality(self):
        for one, other in itertools.product(itertools.islice(all_ties(), 30), repeat=2):
            self.assertIs(Web(one) == Web(other), one == other)
            self.assertIs(Web(one) != Web(other), one != other)
        for value in (*wrong_values(), RING.ties, BRAID):
            self.assertIs(RING == value, False)
            self.assertIs(RING != value, True)

    def test_webs_stay(self):
        for call in (lambda: RING.lot_over(5), lambda: RING.with_tie((1, 3)), lambda: RING.without_tie((1, 2)),
                     lambda: RING.renamed((4, 3, 2, 1)),
                     lambda: RING.with_tie((1, 2)), lambda: open_ring(RING), lambda: order_of_points(RING), lambda: web_degrees(RING),
                     lambda: is_order_of_points(RING, (1, 2, 3, 4)), lambda: list(RING), lambda: RING.is_whole):
            outcome(call)
            self.assert_same(RING.ties, ((1, 2), (1, 4), (2, 3), (3, 4)))

    def test_each_web(self):
        found = list(each_web())
        self.assertEqual([web.ties for web in found], list(all_ties()))
        self.assertEqual(len(found), 63)
        self.assertTrue(inspect.isgenerator(each_web()))


class OrdersTest(Checks, unittest.TestCase):
    def test_rings(self):
        rings = []
        for web in each_web():
            found = open_ring(web)
            self.assert_same(found, plain_ring(web.ties))
            counts = [len([tie for tie in web if point in tie]) for point in (1, 2, 3, 4)]
            self.assertEqual(found is not None, len(web) == 4 and counts == [2, 2, 2, 2])
            self.assertEqual(found is None, order_of_points(web) is not None)
            rings.append(found)
        self.assertEqual(sorted(filter(None, rings)), [(1, 2, 3, 4), (1, 2, 4, 3), (1, 3, 2, 4)])

    def test_orders(self):
        for web in each_web():
            orders = [order for order in itertools.permutations((1, 2, 3, 4)) if plain_order(web.ties, order)]
            for order in itertools.permutations((1, 2, 3, 4)):
                self.assertIs(is_order_of_points(web, order), order in orders)
            found = order_of_points(web)
            self.assertTrue(found in orders if orders else found is None)
            self.assertTrue(found is None or type(found) is tuple)

    def test_degrees(self):
        # [15.5], by every order and over every prime
        for web in each_web():
            found = web_degrees(web)
            for prime in PRIMES:
                self.assert_same(degrees_of(web.lot_over(prime)), found)
            for order in itertools.permutations((1, 2, 3, 4)):
                if plain_order(web.ties, order):
                    counts = [sum(tied(web.ties, order[at], other) for other in order[:at]) for at in (1, 2, 3)]
                    self.assertIn(1, counts)
                    counts.remove(1)
                    self.assert_same(found, tuple(sorted(counts)))
            self.assertEqual(found is None, open_ring(web) is not None)

    def test_no_orders(self):
        whole = Web(TIES)
        for value in (*wrong_values(), (1, 2, 3), [1, 2, 3, 4], (1, 2, 3, 3), (1, 2, 3, 5), (True, 2, 3, 4), (1, 2, 3, 4, 1),
                      ("1", "2", "3", "4"),
                      (0, 1, 2, 3), (1, 2, 3, None), ((1, 2), 3, 4, 1), "1234"):
            self.assertIs(is_order_of_points(whole, value), False)
        self.assertIs(is_order_of_points(whole, (4, 2, 3, 1)), True)

    def test_errors(self):
        for value in (*wrong_values(), RING.ties, TIES):
            if not isinstance(value, Web):
                for call in (open_ring, order_of_points, web_degrees):
                    self.assert_raises(InvalidWeb, call, value)
                self.assert_raises(InvalidWeb, is_order_of_points, value, (1, 2, 3, 4))


class SignedTest(Checks, unittest.TestCase):
    def plain_lines(self, prime, minus, plus, halves):
        last = prime - 1 if prime else -1
        lines = []
        for pairs, number in ((minus, last), (plus, 1)):
            for one, other in pairs:
                line = [0, 0, 0]
                line[one - 1], line[other - 1] = 1, number
                lines.append(tuple(line))
        return tuple(lines) + tuple((X, Y, Z)[at - 1] for at in halves)

    def all_choices(self, items):
        return [choice for many in range(len(items) + 1) for choice in itertools.combinations(items, many)]

    def check(self, prime, minus, plus, halves):
        lot = signed_lot(prime, minus, plus, halves)
        self.assertEqual(lot, Lot(prime, self.plain_lines(prime, minus, plus, halves)))
        return lot

    def test_each_signed_lot_over_3(self):
        many = 0
        for minus, plus, halves in itertools.product(self.all_choices(LETTERS), self.all_choices(LETTERS), self.all_choices((1, 2, 3))):
            if minus or plus or halves:
                self.check(3, minus, plus, halves)
                many += 1
        self.assertEqual(many, 511)

    def test_some_over_other_primes(self):
        source = random.Random(182)
        for prime in (0, 5, 7, 11, 13, 17, 19):
            for _ in range(25):
                minus, plus, halves = (source.choice(self.all_choices(items)) for items in (LETTERS, LETTERS, (1, 2, 3)))
                if minus or plus or halves:
                    self.check(prime, minus, plus, halves)

    def test_free_signed_lots(self):
        # [15.7]
        for prime in PRIMES:
            if prime != 2:
                for halves in self.all_choices((1, 2, 3)):
                    self.assertEqual(degrees_of(self.check(prime, LETTERS, LETTERS, halves)), tuple(sorted((3, 2 + len(halves)))))

    def test_what_is_not_true(self):
        for prime in (0, 3, 5, 19):
            lot = self.check(prime, ((1, 2), (2, 3)), (), (1, 3))
            self.assertIs(is_free(lot), False)
            web = Web(((1, 4), (3, 4), (1, 2), (2, 3)))
            self.assertEqual([web.lot_over(prime), open_ring(web)], [lot, (1, 2, 3, 4)])

    def test_errors(self):
        for value in (*wrong_values(), 4, 23):
            if value not in PRIMES or isinstance(value, bool):
                self.assert_raises(InvalidNumber(value), signed_lot, value, None, None, None)
        wrong = [value for value in wrong_values() if value != ()]
        wrong += [((2, 1),), ((1, 2), (1, 2)), ((1, 3), (1, 2)), ((1, 4),), [(1, 2)], ((1, 2), [1, 3]), (1, 2), ((True, 2),),
                  ((1, 2, 3),), (None,),
                  LETTERS + LETTERS[:1]]
        for value in wrong:
            self.assert_raises(InvalidWeb, signed_lot, 3, value, (), (1,))
            self.assert_raises(InvalidWeb, signed_lot, 3, (), value, (1,))
            self.assert_raises(InvalidWeb, signed_lot, 2, value, None, None)
            self.assert_raises(InvalidWeb, signed_lot, 2, (), value, ())
        for value in (*[one for one in wrong_values() if one not in ((), (1,))], (0,), (4,), (2, 1), (1, 1), [1], 1, (True,), (1, None),
                      ("1",), (1, 2, 3, 4)):
            self.assert_raises(InvalidWeb, signed_lot, 3, (), (), value)
            self.assert_raises(InvalidWeb, signed_lot, 2, (), (), value)
        for prime in PRIMES:
            self.assert_raises(InvalidOperation, signed_lot, prime, (), (), ())
        self.assert_raises(InvalidOperation, signed_lot, 2, LETTERS, (), (1,))
        self.assert_raises(InvalidOperation, signed_lot, 2, (), (), (1,))


if __name__ == "__main__":
    unittest.main()
