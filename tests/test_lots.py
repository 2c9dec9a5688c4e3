"""Lots: [0.12], [3.2] to [3.4] and the class Lot."""

import itertools
import random
import unittest

from support import NOTHING, Checks, outcome, wrong_values
from test_lines import NO_TRIPLES, plain_triples, some_triples
from tangentrows.base.tables import determinant, sent, undone
from tangentrows.errors import InvalidLine, InvalidLot, InvalidNumber, InvalidOperation, InvalidPoint, InvalidTable, Refused, TooMany
from tangentrows.form.forms import Form
from tangentrows.form.products import linear
from tangentrows.plane import lots as module
from tangentrows.plane.lines import is_on, line_of, meet
from tangentrows.plane.lots import Lot

X, Y, Z = (1, 0, 0), (0, 1, 0), (0, 0, 1)
BRAID = Lot(0, (X, Y, Z, (1, -1, 0), (1, 0, -1), (0, 1, -1)))
FIVE = Lot(0, (X, Y, Z, (1, 1, 1), (1, 2, 3)))
PENCIL = tuple((1, k, 0) for k in range(-6, 7))
GENERAL = tuple(line_of(0, (1, k, k * k)) for k in range(14))
UNIT = (X, Y, Z)


def some_lots():
    source = random.Random(41)
    for prime in (2, 3, 5, 19):
        for many in (1, 2, 4, 6):
            lines = [tuple(source.choice(plain_triples(prime))) for _ in range(many)]
            yield Lot(prime, tuple(dict.fromkeys(lines)))
    for many, most in ((1, 3), (3, 1), (7, 1), (13, 1), (13, 2), (9, 1000)):
        yield Lot(0, tuple(dict.fromkeys(some_triples(source, many, most))))
    yield from (BRAID, FIVE, Lot(0, PENCIL), Lot(0, PENCIL[:12] + (Z,)), Lot(3, tuple(plain_triples(3))))


class MakingTest(Checks, unittest.TestCase):
    def test_constant(self):
        self.assert_same(module.MAX_LINES, 13)

    def test_the_points_and_numbers(self):
        for lot in some_lots():
            n, prime = lot.many, lot.prime
            points = sorted({meet(prime, one, other) for one, other in itertools.combinations(lot.lines, 2)})
            self.assert_same(lot.points, tuple(points))
            numbers = [sum(is_on(prime, point, line) for line in lot.lines) for point in points]
            second, squares = sum(m - 1 for m in numbers), sum((m - 1) ** 2 for m in numbers)
            self.assert_same([lot.second, lot.rest, lot.squares], [second, second - (n - 1), squares])
            self.assert_same(lot.factors, (1, 1 - n, lot.rest))
            self.assertIs(lot.is_bundle, len(points) <= 1)
            self.assertEqual([lot.number_at(point) for point in points], numbers)
            self.assertEqual(len(lot), n)

    def test_the_sums(self):
        for lot in some_lots():
            n = lot.many
            self.assertEqual(sum(lot.number_at(point) * (lot.number_at(point) - 1) for point in lot.points), n * (n - 1))
            self.assertEqual(lot.squares, (n - 1) ** 2 - lot.rest)
            for line in lot:
                self.assertEqual(sum(lot.number_at(point) - 1 for point in lot.points_on(line)), n - 1)
            self.assertEqual(lot.rest == 0, lot.is_bundle)
            if not lot.is_bundle:
                self.assertGreaterEqual(lot.rest, n - 2)

    def test_one_line(self):
        lot = Lot(0, ((1, 2, 3),))
        self.assert_same([lot.points, lot.second, lot.rest, lot.squares, lot.factors, lot.is_bundle, lot.many],
                         [(), 0, 0, 0, (1, 0, 0), True, 1])
        self.assert_same([lot.points_on((1, 2, 3)), lot.points_on(Z), str(lot.product)], [(), ((2, -1, 0),), "x + 2y + 3z"])

    def test_any_order(self):
        for order in itertools.permutations(FIVE.lines):
            lot = Lot(0, order)
            self.assertEqual(lot, FIVE)
            self.assert_same(lot.lines, tuple(sorted(order)))
            self.assert_same(list(lot), sorted(order))

    def test_thirteen_lines(self):
        for lines in (GENERAL[:13], PENCIL):
            lot = Lot(0, lines)
            self.assertEqual([lot.many, str(lot)], [13, "lot of 13 lines over 0"])
        self.assertEqual([len(Lot(0, GENERAL[:13]).points), Lot(0, GENERAL[:13]).rest], [78, 66])
        self.assert_raises(InvalidLot, Lot, 0, GENERAL)
        self.assertEqual(str(Lot(2, (X,))), "lot of 1 lines over 2")

    def test_great_lines(self):
        lot = Lot(0, ((1, 1000, -1000), (1000, -999, 1)))
        self.assertEqual(lot.points, (meet(0, (1, 1000, -1000), (1000, -999, 1)),))
        self.assert_raises(InvalidLot, Lot, 0, ((1, 1001, 0), X))
        self.assert_raises(InvalidLot, Lot, 0, (X, (1, 0, -1001)))

    def test_errors(self):
        for prime in wrong_values():
            self.assert_raises(InvalidNumber(prime), Lot, prime, None)
        for value in (None, 1, True, "x", (), [], {}, [X], [X, Y], X, (X, None), (X, 1), (X, Y, X), (X, X), ((1, 0, 0), (True, 0, 0)),
                      (X, [0, 1, 0]), BRAID, (BRAID,), ((2, 0, 0),), ((-1, 0, 0),), ((0, 0, 0),), {X: 1}):
            self.assert_raises(InvalidLot, Lot, 0, value)
        for triple in NO_TRIPLES:
            self.assert_raises(InvalidLot, Lot, 0, (triple,))
        for value in ((X, (1, -1, 0)), ((1, 5, 0),), ((2, 0, 0),)):
            self.assert_raises(InvalidLot, Lot, 5, value)
        self.assertEqual(Lot(5, ((1, 4, 0), X)).lines, (X, (1, 4, 0)))

    def test_the_product(self):
        for lot in some_lots():
            told = lot.product
            self.assertEqual([told.prime, told.letters, told.degree], [lot.prime, 3, lot.many])
            for line in lot:
                told = told.over(linear(lot.prime, line))
            self.assertEqual(told, Form(lot.prime, 3, {(0, 0, 0): 1}))

    def test_properties_stay(self):
        for name in ("prime", "lines", "many", "points", "second", "rest", "squares", "factors", "product", "is_bundle"):
            with self.assertRaises(AttributeError):
                setattr(BRAID, name, None)


class PartsTest(Checks, unittest.TestCase):
    def test_lines_at(self):
        for lot in (BRAID, FIVE, Lot(0, PENCIL), Lot(3, tuple(plain_triples(3)))):
            for point in (*lot.points, X, Y, Z, (1, 1, 1), (1, 2, 0)):
                told = tuple(line for line in lot.lines if is_on(lot.prime, point, line))
                self.assert_same([lot.lines_at(point), lot.number_at(point)], [told, len(told)])
        self.assert_same(BRAID.lines_at((10 ** 60 - 1, 10 ** 60 - 1, 1)), ((1, -1, 0),))
        self.assert_same([BRAID.lines_at((1, 2, 3)), BRAID.number_at((1, 2, 3))], [(), 0])

    def test_errors_of_points(self):
        for value in NO_TRIPLES:
            self.assert_raises(InvalidPoint, BRAID.lines_at, value)
            self.assert_raises(InvalidPoint, BRAID.number_at, value)
        self.assert_raises(InvalidPoint, Lot(3, (X,)).lines_at, (1, -1, 0))

    def test_points_on(self):
        for lot in some_lots():
            further = line_of(lot.prime, (1, 1, 1)), line_of(lot.prime, (0, 1, 1)), Z
            for line in (*lot.lines, *further):
                if line in lot.lines:
                    told = [point for point in lot.points if is_on(lot.prime, point, line)]
                else:
                    told = sorted({meet(lot.prime, line, other) for other in lot.lines})
                self.assert_same(lot.points_on(line), tuple(told))

    def test_errors_of_points_on(self):
        for value in (*NO_TRIPLES, (1, 1001, 0)):
            self.assert_raises(InvalidLine, BRAID.points_on, value)
        self.assert_raises(InvalidLine, Lot(3, (X,)).points_on, (1, -1, 0))

    def test_with_line(self):
        self.assertEqual(Lot(0, (X, Z)).with_line(Y), Lot(0, UNIT))
        full, twelve = Lot(0, GENERAL[:13]), Lot(0, GENERAL[:12])
        self.assertEqual(twelve.with_line(GENERAL[12]), full)
        self.assert_raises(TooMany(13), full.with_line, GENERAL[13])
        self.assert_raises(InvalidOperation, full.with_line, GENERAL[3])
        self.assert_raises(InvalidOperation, BRAID.with_line, X)
        for value in (*NO_TRIPLES, (1, 1001, 0)):
            self.assert_raises(InvalidLine, full.with_line, value)
            self.assert_raises(InvalidLine, BRAID.without_line, value)

    def test_without_line(self):
        self.assertEqual(Lot(0, UNIT).without_line(Y), Lot(0, (X, Z)))
        self.assert_raises(InvalidOperation, BRAID.without_line, (1, 1, 1))
        self.assert_raises(InvalidOperation, Lot(0, (X,)).without_line, X)
        self.assert_raises(InvalidOperation, Lot(0, (X,)).without_line, Y)
        self.assert_raises(InvalidLine, Lot(0, (X,)).without_line, (2, 0, 0))
        self.assertEqual(Lot(0, (X, Y)).without_line(Y), Lot(0, (X,)))

    def test_part(self):
        self.assertEqual(BRAID.part(BRAID.lines), BRAID)
        self.assertEqual(BRAID.part((Z,)), Lot(0, (Z,)))
        self.assertEqual(BRAID.part((Z, X)).lines, (Z, X))
        for value in (None, 1, "x", (), [], {}, [Z, X], (X, Z), (Z, Z), (X, Y, Z), ((1, 1, 1),), (Z, X, None), (Z, (1, False, 0)),
                      ((False, 0, 1),), (Z, [1, 0, 0]), X, (Z, (1, 2, 3)), BRAID, FIVE.lines, BRAID.lines[::-1]):
            self.assert_raises(InvalidOperation, BRAID.part, value)


class LedTest(Checks, unittest.TestCase):
    def tables(self, prime):
        source = random.Random(42)
        for _ in range(8):
            table = tuple(tuple(source.randint(0, prime - 1) if prime else source.randint(-2, 2) for _ in range(3)) for _ in range(3))
            if determinant(prime, table):
                yield table

    def test_points_go_along(self):
        for lot in (BRAID, FIVE, Lot(0, PENCIL), Lot(3, tuple(plain_triples(3))), Lot(7, UNIT + ((1, 3, 5),)), Lot(2, UNIT)):
            for table in self.tables(lot.prime):
                told = lot.led(table)
                self.assertEqual([told.second, told.rest, told.squares], [lot.second, lot.rest, lot.squares])
                points = [line_of(lot.prime, sent(lot.prime, table, point)) for point in lot.points]
                self.assert_same(told.points, tuple(sorted(points)))
                for point, image in zip(lot.points, points):
                    self.assertEqual(told.number_at(image), lot.number_at(point))
                self.assertEqual(told.led(undone(lot.prime, table)), lot)

    def test_each_point_of_a_line(self):
        for prime in (2, 3, 5):
            triples = plain_triples(prime)
            for table in self.tables(prime):
                for line in triples:
                    image = Lot(prime, (line,)).led(table).lines[0]
                    for point in triples:
                        place = line_of(prime, sent(prime, table, point))
                        self.assertEqual(is_on(prime, place, image), is_on(prime, point, line))

    def test_great_lines(self):
        table = ((1, 0, 0), (0, 1, 0), (0, 0, 1000))
        self.assertEqual(Lot(0, ((1, 1, 1), Z)).led(table).lines, (Z, (1000, 1000, 1)))
        self.assert_raises(TooMany(1000), Lot(0, ((1, 1, 1), Z)).led, ((1, 0, 0), (0, 1, 0), (0, 0, 1001)))
        self.assert_raises(TooMany(1000), Lot(0, ((1, 0, -1),)).led, ((1001, 0, 0), (0, 1, 0), (0, 0, 1)))
        self.assertEqual(Lot(0, (X, Y, Z)).led(((10 ** 60 - 1, 0, 0), (0, 7, 0), (0, 0, 1))), Lot(0, UNIT))
        self.assertEqual(Lot(0, ((1, -1000, 0),)).led(((1, 0, 0), (0, -1, 0), (0, 0, 1))).lines, ((1, 1000, 0),))

    def test_errors(self):
        for value in (None, 1, "x", (), [], {}, ((1, 0), (0, 1)), (X, Y), (X, Y, Z, X), [X, Y, Z], (X, Y, [0, 0, 1]), ((1, 0, 0, 0),) * 3,
                      (X, Y, (0, 0, True)), (X, Y, (0, 0, None)), (X, Y, (0, 0, 10 ** 60)), ((1,),), BRAID, (X, Y, 1)):
            self.assert_raises(InvalidTable, BRAID.led, value)
        for value in ((X, X, Y), ((0, 0, 0),) * 3, ((1, 2, 3), (4, 5, 6), (7, 8, 9))):
            self.assert_raises(Refused(("flat",)), BRAID.led, value)
        three = Lot(3, UNIT)
        self.assert_raises(InvalidTable, three.led, (X, Y, (0, 0, 3)))
        self.assert_raises(Refused(("flat",)), three.led, ((1, 1, 0), (2, 2, 0), Z))


class TogetherTest(Checks, unittest.TestCase):
    def test_or(self):
        self.assertEqual(Lot(0, (X, Y)) | Lot(0, (Y, Z)), Lot(0, UNIT))
        self.assertEqual(BRAID | BRAID, BRAID)
        self.assertEqual(Lot(0, GENERAL[:7]) | Lot(0, GENERAL[6:13]), Lot(0, GENERAL[:13]))
        self.assert_raises(TooMany(13), lambda: Lot(0, GENERAL[:7]) | Lot(0, GENERAL[7:]))
        self.assert_raises(TooMany(13), lambda: Lot(0, GENERAL[:13]) | Lot(0, GENERAL[1:]))

    def test_errors_of_or(self):
        for value in wrong_values():
            if not isinstance(value, Lot):
                self.assertEqual(outcome(lambda: BRAID | value), ("TypeError", NOTHING))
                self.assertEqual(outcome(lambda: value | BRAID), ("TypeError", NOTHING))
        self.assert_raises(InvalidLot, lambda: BRAID | Lot(2, (X,)))
        self.assert_raises(InvalidLot, lambda: Lot(0, PENCIL) | Lot(19, tuple((1, k, 0) for k in range(13))))

    def test_in(self):
        for line in BRAID.lines:
            self.assertIs(line in BRAID, True)
        for value in [*wrong_values(), *NO_TRIPLES, (1, 1, 1), (2, 0, 0), (True, 0, 0), (1, False, False), [1, 0, 0]]:
            self.assertIs(value in BRAID, isinstance(value, tuple) and repr(value) == "(1, 0, 0)")
            self.assertIs(value not in FIVE, not (isinstance(value, tuple) and repr(value) in ("(1, 0, 0)", "(1, 1, 1)")))

    def test_equality(self):
        for value in [*wrong_values(), FIVE, BRAID.lines, Lot(0, UNIT), "lot of 6 lines over 0"]:
            self.assertIs(BRAID == value, False)
            self.assertIs(BRAID != value, True)
        self.assertIs(BRAID == Lot(0, BRAID.lines[::-1]), True)
        self.assertIs(BRAID != Lot(0, BRAID.lines[::-1]), False)
        self.assertNotEqual(Lot(0, UNIT), Lot(2, UNIT))

    def test_a_lot_stays(self):
        lines = list(BRAID.lines)
        lot = Lot(0, tuple(lines))
        lines.clear()
        calls = (lambda: lot.lines_at(X), lambda: lot.number_at(X), lambda: lot.points_on(X), lambda: lot.with_line((1, 1, 1)),
                 lambda: lot.without_line(X), lambda: lot.part((Z,)), lambda: lot.led(((1, 1, 0), (0, 1, 0), (0, 0, 1))),
                 lambda: lot | FIVE, lambda: X in lot, lambda: lot.product, lambda: lot.with_line(X), lambda: lot.led(None),
                 lambda: lot.part(None), lambda: lot | None, lambda: lot == None, lambda: list(lot), lambda: str(lot))
        for call in calls:
            outcome(call)
            self.assertEqual([lot.prime, lot.lines, lot.points, lot.factors], [0, BRAID.lines, BRAID.points, BRAID.factors])
            self.assertEqual(lot, BRAID)


if __name__ == "__main__":
    unittest.main()
