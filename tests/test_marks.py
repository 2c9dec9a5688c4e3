"""Marks: [0.15], [5.1] and the class Marks."""

import itertools
import random
import unittest
from math import gcd

from support import NOTHING, Checks, outcome, wrong_values
from tangentrows.errors import InvalidMarks, InvalidNumber, InvalidOperation, InvalidTable, Refused, TooMany
from tangentrows.form.forms import Form
from tangentrows.form.products import linear
from tangentrows.mark import marks as module
from tangentrows.mark.marks import Marks
from tangentrows.plane.lots import Lot

GREAT = 10 ** 60 - 1
FAR = 10 ** 7
X, Y = (1, 0), (0, 1)
NO_SPOTS = (None, 1, True, "x", "xy", [1, 0], (), (1,), (0, 0), (1, 0, 0), (True, 0), (1, False), (1, None), (2, 0), (2, 4), (-1, 1),
            (0, -1), (0, 2), (1, FAR + 1), (1, -FAR - 1), (FAR + 1, 1), (GREAT, 1), (10 ** 60, 1), ((1, 0),), ([1], [0]), {}, {X: 1})
NO_TABLES = (None, 1, True, "x", (), X, (X,), [X, Y], (X, Y, X), (X, [0, 1]), ((1, 0, 0), (0, 1, 0)), ((True, 0), (0, 1)), (X, (0, None)),
             (X, (0, 10 ** 60)), {X: Y}, ((1,), (0,)), (X, 1), ((1,),), ((1, 0, 0), (0, 1, 0), (0, 0, 1)))


def plain_spots(prime):
    """All spots over a prime, by their definition."""
    return [pair for pair in itertools.product(range(prime), repeat=2) if any(pair) and [n for n in pair if n][0] == 1]


def some_spots(source, many, most):
    found = []
    while len(found) < many:
        pair = (source.randint(-most, most), source.randint(-most, most))
        if gcd(*pair) == 1 and [n for n in pair if n][0] > 0 and pair not in found:
            found.append(pair)
    return found


def some_marks(seed=61):
    """Marks of many kinds, over 0 and over other primes."""
    source = random.Random(seed)
    yield from (Marks(0, {}), Marks(7, {}), Marks(0, {Y: 1}), Marks(2, {X: 5}), Marks(0, {X: 12, Y: 12}))
    for prime in (0, 2, 3, 5, 19):
        for many, most in ((1, 4), (2, 3), (3, 3), (4, 3), (5, 2)):
            spots = some_spots(source, many, 3) if prime == 0 else source.sample(plain_spots(prime), min(many, prime + 1))
            yield Marks(prime, {spot: source.randint(1, most) for spot in spots})
    yield Marks(0, {spot: 1 for spot in some_spots(source, 6, 9)})


class MakingTest(Checks, unittest.TestCase):
    def test_constants(self):
        self.assert_same([module.MAX_SPOTS, module.MAX_COUNT, module.MAX_TOTAL, module.MAX_ENTRY], [13, 12, 24, 10 ** 7])

    def test_properties(self):
        marks = Marks(5, {(1, 4): 2, Y: 1, (1, 0): 3})
        self.assert_same([marks.prime, marks.spots, marks.total, len(marks)], [5, (Y, X, (1, 4)), 6, 3])
        self.assert_same(list(marks.counts.items()), [(Y, 1), (X, 3), ((1, 4), 2)])
        self.assert_same(list(marks), [Y, X, (1, 4)])
        self.assertEqual(str(marks), "3 spots, 6 in all, over 5")
        self.assertEqual(str(marks.product), str(Form.read(5, 2, "x^5y + 3x^4y^2 + x^3y^3")))
        for name in ("prime", "counts", "spots", "total", "product"):
            with self.assertRaises(AttributeError):
                setattr(marks, name, None)

    def test_no_spots(self):
        for prime in (0, 2, 19):
            marks = Marks(prime, {})
            self.assert_same([marks.counts, marks.spots, marks.total, len(marks), list(marks), str(marks.product), X in marks],
                             [{}, (), 0, 0, [], "1", False])
            self.assertEqual(str(marks), f"0 spots, 0 in all, over {prime}")
            self.assert_same(marks.raised(X).counts, {X: 1})

    def test_the_bounds(self):
        spots = [(1, k) for k in range(14)]
        for counts in ({X: 12}, {X: 12, Y: 12}, {spot: 1 for spot in spots[:13]}, {X: 1, (1, FAR): 1, (FAR, -1): 1, (1, -FAR): 1},
                       {**{spot: 1 for spot in spots[:12]}, Y: 12}, {X: 8, Y: 8, (1, 1): 8}):
            self.assert_same(Marks(0, counts).total, sum(counts.values()))
        for counts in ({X: 13}, {X: 12, Y: 12, (1, 1): 1}, {spot: 1 for spot in spots}, {(1, FAR + 1): 1}, {(FAR + 1, 1): 1},
                       {(1, -FAR - 1): 1}, {**{spot: 2 for spot in spots[:12]}, Y: 1}, {X: 0}, {X: -1}, {X: True}, {X: None}, {X: "1"},
                       {X: 10 ** 60}, {X: (1,)}, {X: 1.5}):
            self.assert_raises(InvalidMarks, Marks, 0, counts)
        self.assertEqual(len(Marks(19, {spot: 1 for spot in spots[:13]})), 13)
        self.assert_raises(InvalidMarks, Marks, 19, {spot: 1 for spot in spots})

    def test_wrong_counts(self):
        for value in (None, 1, True, "x", (), [], [X], (X,), ((X, 1),), [(X, 1)], X, Marks(0, {X: 1}), Lot(0, ((1, 0, 0),)), Form(0, 2)):
            self.assert_raises(InvalidMarks, Marks, 0, value)
        for spot in NO_SPOTS:
            if not isinstance(spot, (list, dict)) and spot != ([1], [0]):
                self.assert_raises(InvalidMarks, Marks, 0, {spot: 1})
                self.assert_raises(InvalidMarks, Marks, 0, {Y: 1, spot: 1})
        for spot in ((1, -1), (1, 5), (2, 0), (2, 1), (4, 4), (0, 4)):
            self.assert_raises(InvalidMarks, Marks, 5, {spot: 1})
        for prime in wrong_values():
            self.assert_raises(InvalidNumber(prime), Marks, prime, None)

    def test_no_shared_state(self):
        counts = {X: 2, Y: 1}
        marks = Marks(0, counts)
        counts[X] = 7
        counts[(1, 1)] = 5
        self.assert_same(marks.counts, {Y: 1, X: 2})
        told = marks.counts
        told[X] = 9
        told.clear()
        told[(5, 5)] = 5
        self.assert_same([marks.counts, marks.total, marks.spots, len(marks)], [{Y: 1, X: 2}, 3, (Y, X), 2])
        self.assertEqual(counts, {X: 7, Y: 1, (1, 1): 5})

    def test_the_product(self):
        for marks in some_marks():
            rest = marks.product
            self.assertEqual([rest.prime, rest.letters, rest.degree], [marks.prime, 2, marks.total])
            for spot, count in marks.counts.items():
                for _ in range(count):
                    rest = rest.over(linear(marks.prime, spot))
            self.assertEqual(rest, Form(marks.prime, 2, {(0, 0): 1}))


class ChangedTest(Checks, unittest.TestCase):
    def test_count_at(self):
        marks = Marks(0, {X: 3, (1, -2): 1})
        self.assert_same([marks.count_at(X), marks.count_at((1, -2)), marks.count_at(Y), marks.count_at((FAR, -1))], [3, 1, 0, 0])
        for spot in NO_SPOTS:
            self.assert_raises(InvalidOperation, marks.count_at, spot)
        self.assert_raises(InvalidOperation, Marks(3, {X: 1}).count_at, (1, 3))

    def test_raised(self):
        marks = Marks(0, {X: 3, (1, -2): 1})
        self.assert_same([marks.raised(X).counts, marks.raised(Y).counts], [{(1, -2): 1, X: 4}, {Y: 1, (1, -2): 1, X: 3}])
        for spot in NO_SPOTS:
            self.assert_raises(InvalidOperation, marks.raised, spot)
        self.assertEqual(list(marks.raised(Y).counts), [Y, (1, -2), X])

    def test_the_bounds_of_raised(self):
        spots = [(1, k) for k in range(14)]
        full = Marks(0, {spot: 1 for spot in spots[:13]})
        self.assert_raises(TooMany(13), full.raised, spots[13])
        self.assertEqual(full.raised(spots[0]).total, 14)
        self.assert_raises(TooMany(12), Marks(0, {X: 12}).raised, X)
        self.assertEqual(Marks(0, {X: 11}).raised(X).counts, {X: 12})
        whole = Marks(0, {X: 12, Y: 12})
        self.assert_raises(TooMany(12), whole.raised, X)
        self.assert_raises(TooMany(24), whole.raised, (1, 1))
        self.assert_raises(TooMany(24), Marks(0, {X: 11, Y: 11, (1, 1): 2}).raised, X)
        heavy = Marks(0, {**{spot: 1 for spot in spots[1:13]}, X: 12})
        self.assertEqual([heavy.total, len(heavy)], [24, 13])
        self.assert_raises(TooMany(12), heavy.raised, X)
        self.assert_raises(TooMany(13), heavy.raised, Y)
        self.assert_raises(TooMany(24), heavy.raised, (1, 5))
        self.assertEqual(Marks(0, {X: 12, Y: 11}).raised(Y), whole)

    def test_lowered(self):
        marks = Marks(0, {X: 3, (1, -2): 1})
        self.assert_same([marks.lowered(X).counts, marks.lowered((1, -2)).counts], [{(1, -2): 1, X: 2}, {X: 3}])
        self.assert_same(Marks(3, {X: 1}).lowered(X).counts, {})
        for spot in (*NO_SPOTS, Y, (1, 1)):
            self.assert_raises(InvalidOperation, marks.lowered, spot)
        for one in some_marks():
            for spot in one.spots:
                if one.total < 24 and one.count_at(spot) < 12:
                    self.assertEqual(one.raised(spot).lowered(spot), one)

    def test_led(self):
        source = random.Random(62)
        for marks in some_marks():
            prime = marks.prime
            for _ in range(4):
                table = tuple(tuple(source.randint(0, prime - 1) if prime else source.randint(-3, 3) for _ in range(2)) for _ in range(2))
                flat = table[0][0] * table[1][1] - table[0][1] * table[1][0]
                if (flat % prime if prime else flat) == 0:
                    self.assert_raises(Refused(("flat",)), marks.led, table)
                    continue
                told = marks.led(table)
                self.assertEqual(sorted(told.counts.values()), sorted(marks.counts.values()))
                for (a, b), count in marks.counts.items():
                    place = (table[0][0] * b - table[0][1] * a, table[1][0] * b - table[1][1] * a)
                    here = [(c, d) for c, d in told.spots if (c * place[0] + d * place[1]) % (prime or FAR ** 3) == 0]
                    self.assertEqual([told.count_at(spot) for spot in here], [count])

    def test_the_bounds_of_led(self):
        marks = Marks(0, {X: 2, (1, 1): 1})
        self.assert_same(marks.led(((1, 0), (0, FAR))).spots, (X, (FAR, 1)))
        self.assert_raises(TooMany(FAR), marks.led, ((1, 0), (0, FAR + 1)))
        self.assert_raises(TooMany(FAR), marks.led, ((1, 0), (0, -FAR - 1)))
        self.assertEqual(Marks(0, {X: 2, Y: 1}).led(((GREAT, 0), (0, 7))), Marks(0, {X: 2, Y: 1}))
        self.assertEqual(Marks(0, {}).led(((GREAT, 1), (0, GREAT))), Marks(0, {}))
        self.assert_raises(Refused(("flat",)), Marks(0, {(1, FAR): 1}).led, ((GREAT, GREAT), (GREAT, GREAT)))
        for table in NO_TABLES:
            self.assert_raises(InvalidTable, marks.led, table)
        self.assert_raises(InvalidTable, Marks(3, {X: 1}).led, ((3, 0), (0, 1)))
        self.assert_raises(Refused(("flat",)), Marks(3, {X: 1}).led, ((1, 2), (2, 1)))

    def test_in(self):
        marks = Marks(0, {X: 3, (1, -2): 1})
        for spot in marks.spots:
            self.assertIs(spot in marks, True)
        for value in (*wrong_values(), *NO_SPOTS, Y, (1, 2), (1, 1)):
            self.assertIs(value in marks, isinstance(value, tuple) and repr(value) == "(1, 0)")
        self.assertIs((1, 3) in Marks(5, {(1, 3): 1}), True)

    def test_equality(self):
        marks = Marks(0, {X: 3, (1, 2): 1})
        for value in (*wrong_values(), Marks(5, {X: 3, (1, 2): 1}), Marks(0, {X: 3}), Marks(0, {X: 1, (1, 2): 3}), {X: 3, (1, 2): 1}):
            self.assertIs(marks == value, False)
            self.assertIs(marks != value, True)
        self.assertIs(marks == Marks(0, {(1, 2): 1, X: 3}), True)
        self.assertIs(marks != Marks(0, {(1, 2): 1, X: 3}), False)

    def test_marks_stay(self):
        marks = Marks(0, {X: 12, (1, 2): 1})
        calls = (lambda: marks.raised(Y), lambda: marks.raised(X), lambda: marks.raised(None), lambda: marks.lowered(X),
                 lambda: marks.lowered(Y), lambda: marks.lowered((1, 2)), lambda: marks.led(((1, 1), (0, 1))), lambda: marks.led(None),
                 lambda: marks.count_at(X), lambda: marks.product, lambda: marks == 1, lambda: X in marks, lambda: list(marks),
                 lambda: str(marks), lambda: marks.counts.clear(), lambda: marks.led(((0, 0), (0, 0))))
        for call in calls:
            outcome(call)
            self.assert_same([marks.prime, marks.counts, marks.total, marks.spots], [0, {(1, 2): 1, X: 12}, 13, (X, (1, 2))])
        self.assertEqual(outcome(lambda: marks + marks), ("TypeError", NOTHING))


if __name__ == "__main__":
    unittest.main()
