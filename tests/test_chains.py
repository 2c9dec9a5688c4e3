"""Modular points and histories: [14.1] to [14.5] and their functions."""

import inspect
import itertools
import random
import unittest

from support import Checks, is_same, outcome, wrong_values
from test_deeds import NONET, ONE, lots_of_all_kinds
from test_free import CUBES, FANO, free_lots, many_lots
from test_lines import NO_TRIPLES
from test_lots import BRAID, FIVE, GENERAL, PENCIL, X, Y, Z
from test_primes import FAN, PLUS
from test_rows import TRI
from tangentrows.chain import chains as module
from tangentrows.chain.chains import (degrees_by_point, each_free_part, history, history_by_point, is_history, is_missing_join,
                                      is_modular, missing_join, modular_points)
from tangentrows.errors import InvalidLot, InvalidNumber, InvalidOperation, InvalidPoint, TooMany
from tangentrows.free.free import degrees_of, is_free
from tangentrows.plane.lines import is_on, join, meet
from tangentrows.plane.lots import Lot
from tangentrows.plane.primes import all_lines


def plainly_modular(lot, point):
    """Modular by the words of [14.1]."""
    return all(join(lot.prime, point, other) in lot.lines for other in lot.points if other != point)


def plainly_missing(lot, point, one, other):
    """A missing join by the words of [14.1]."""
    if is_on(lot.prime, point, one) or is_on(lot.prime, point, other):
        return False
    return join(lot.prime, point, meet(lot.prime, one, other)) not in lot.lines


def plainly_history(lot, lines):
    return sorted(lines) == list(lot.lines) and all(is_free(Lot(lot.prime, lines[:k])) for k in range(1, len(lines) + 1))


def small_lots():
    """Lots of up to nine lines."""
    return [lot for lot in lots_of_all_kinds() if lot.many <= 9]


class ModularTest(Checks, unittest.TestCase):
    def test_constant(self):
        self.assert_same(module.MAX_SEARCHED, 9)

    def test_modular_points(self):
        told = {True: 0, False: 0}
        for lot in lots_of_all_kinds():
            expected = tuple(point for point in lot.points if plainly_modular(lot, point))
            self.assert_same(modular_points(lot), expected)
            for point in lot.points:
                self.assertIs(is_modular(lot, point), point in expected)
                told[point in expected] += 1
        self.assertGreater(min(told.values()), 20)
        self.assert_same([modular_points(ONE), modular_points(Lot(0, PENCIL)), modular_points(Lot(0, PENCIL[:2]))], [(), (Z,), (Z,)])
        self.assertEqual([len(modular_points(lot)) for lot in (FANO, all_lines(3), TRI, CUBES)], [7, 13, 3, 0])

    def test_what_is_modular(self):
        for value in (*wrong_values(), (0, 0, -1), (0, 0, 2), [0, 0, 1], (False, 0, 1), (0, 0, True), (0, 1, 1), (5, 7, 9), (1, 1, 1, 1)):
            self.assertIs(is_modular(BRAID, value), is_same(value, X))
            self.assertIs(is_modular(ONE, value), False)
        for point in (Z, Y, X, (1, 1, 1)):
            self.assertIs(is_modular(BRAID, point), True)
        # No point of the lot, though each of its lines through the point would do.
        self.assertIs(is_modular(Lot(0, PENCIL[:4]), X), False)
        self.assertIs(is_modular(FANO, (1, 2, 0)), False)

    def test_degrees_by_point(self):
        for lot in lots_of_all_kinds():
            for point in modular_points(lot):
                m, n = lot.number_at(point), lot.many
                found = degrees_by_point(lot, point)
                self.assert_same(found, tuple(sorted((m - 1, n - m))))
                self.assert_same(found, degrees_of(lot))
        self.assert_same([degrees_by_point(Lot(0, PENCIL), Z), degrees_by_point(Lot(0, PENCIL[:2]), Z)], [(0, 12), (0, 1)])

    def test_missing_joins(self):
        source = random.Random(171)
        for lot in lots_of_all_kinds():
            points = lot.points if len(lot.points) < 12 else source.sample(lot.points, 12)
            for point in points:
                found = missing_join(lot, point)
                self.assertEqual(found is None, plainly_modular(lot, point))
                if found is not None:
                    self.assertTrue(type(found) is tuple and len(found) == 2 and found[0] < found[1])
                    self.assertTrue(set(found) <= set(lot.lines) and plainly_missing(lot, point, *found))
                    self.assertIs(is_missing_join(lot, point, found), True)
                for one, other in itertools.combinations(lot.lines if lot.many < 8 else source.sample(lot.lines, 5), 2):
                    one, other = sorted((one, other))
                    self.assertIs(is_missing_join(lot, point, (one, other)), plainly_missing(lot, point, one, other))
                    self.assertIs(is_missing_join(lot, point, (other, one)), False)

    def test_no_missing_joins(self):
        point, pair = (0, 1, 1), (Z, (1, -1, 0))
        self.assertIs(is_missing_join(BRAID, point, pair), True)
        for value in (*wrong_values(), pair[::-1], list(pair), (Z,), (Z, Z), (*pair, X), (Z, list(pair[1])), ((False, 0, 1), pair[1]),
                      (Z, (1, 1, 0)), (X, Y), (X, Z), (Z, (1, -1, False)), (Z, (-1, 1, 0)), (Z, None), (None, Z), ((0, 0, 2), pair[1]),
                      (Z, (1, 1001, 0)), "xy", (Z, "x")):
            self.assertIs(is_missing_join(BRAID, point, value), False, value)
        self.assertIs(is_missing_join(BRAID, (1, 1, 1), pair), False)

    def test_errors(self):
        for value in wrong_values():
            if not isinstance(value, Lot):
                for call in (lambda: modular_points(value), lambda: is_modular(value, X), lambda: missing_join(value, None),
                             lambda: is_missing_join(value, None, None), lambda: degrees_by_point(value, None),
                             lambda: history_by_point(value, None), lambda: history(value), lambda: is_history(value, None),
                             lambda: list(each_free_part(value, None))):
                    self.assert_raises(InvalidLot, call)
        for value in NO_TRIPLES:
            for lot in (BRAID, FIVE, ONE):
                for call in (missing_join, degrees_by_point, history_by_point):
                    self.assert_raises(InvalidPoint, call, lot, value)
                self.assert_raises(InvalidPoint, is_missing_join, lot, value, None)
        for lot, point in ((BRAID, (5, 7, 9)), (ONE, X), (ONE, Y), (Lot(0, PENCIL), X), (TRI, (1, 1, 0)), (BRAID, (10 ** 59, 1, 0))):
            for call in (missing_join, degrees_by_point, history_by_point):
                self.assert_raises(InvalidOperation, call, lot, point)
            self.assert_raises(InvalidOperation, is_missing_join, lot, point, None)
        for lot, point in ((BRAID, (0, 1, 1)), (PLUS, X), (FIVE, X), (CUBES, Z)):
            self.assert_raises(InvalidOperation, degrees_by_point, lot, point)
            self.assert_raises(InvalidOperation, history_by_point, lot, point)
        self.assert_raises(InvalidPoint, missing_join, FANO, (1, 2, 0))

    def test_what_is_not_true(self):
        # [14.5] and [0.21]
        numbers = {point: PLUS.number_at(point) for point in PLUS.points}
        self.assertEqual([is_free(PLUS), modular_points(PLUS), max(numbers.values())], [True, (), 3])
        grown = PLUS.without_line((1, 1, 0))
        self.assertEqual([bool(modular_points(grown)), modular_points(PLUS)], [True, ()])
        # FAN without Z is near a bundle; with Z the point of the most lines is joined to not all others.
        self.assertEqual([max(FAN.number_at(point) for point in FAN.points), FAN.number_at(Z), is_modular(FAN, Z)], [5, 5, False])


class HistoryTest(Checks, unittest.TestCase):
    def test_by_point(self):
        for lot in lots_of_all_kinds():
            for point in modular_points(lot):
                found = history_by_point(lot, point)
                m = lot.number_at(point)
                self.assert_same(found[:m], lot.lines_at(point))
                self.assert_same(found[m:], tuple(line for line in lot.lines if line not in found[:m]))
                self.assertIs(is_history(lot, found), True)

    def test_each_order_by_point(self):
        # [14.3]
        source = random.Random(172)
        for lot in (BRAID, FANO, TRI, Lot(0, PENCIL[:4] + (Z,)), Lot(0, PENCIL[:5]), all_lines(3)):
            for point in modular_points(lot)[:3]:
                first = list(lot.lines_at(point))
                others = [line for line in lot.lines if line not in first]
                for _ in range(6):
                    source.shuffle(first)
                    source.shuffle(others)
                    self.assertIs(is_history(lot, (*first, *others)), True)
                    self.assertTrue(lot.many > 8 or plainly_history(lot, (*first, *others)))

    def test_histories(self):
        told = {True: 0, False: 0}
        for lot in small_lots():
            found = history(lot)
            if found is None:
                self.assertEqual(modular_points(lot), ())
            else:
                self.assertTrue(type(found) is tuple and plainly_history(lot, found))
                self.assertIs(is_history(lot, found), True)
                self.assertIs(is_free(lot), True)
            told[found is None] += 1
        self.assertGreater(min(told.values()), 10)
        self.assert_same([history(ONE), history(FIVE), history(CUBES), history(NONET)], [(X,), None, None, None])

    def test_there_is_none_only_if_there_is_none(self):
        for lot in many_lots():
            if lot.many <= 5:
                exists = any(plainly_history(lot, order) for order in itertools.permutations(lot.lines))
                self.assertEqual(history(lot) is not None, exists)

    def test_all_orders(self):
        told = {True: 0, False: 0}
        for lot in (FIVE, TRI, Lot(0, PENCIL[:3] + (Z,)), Lot(2, FANO.lines[:5]), Lot(0, GENERAL[:4]), ONE):
            for order in itertools.permutations(lot.lines):
                expected = plainly_history(lot, order)
                self.assertIs(is_history(lot, order), expected)
                told[expected] += 1
        source = random.Random(173)
        for lot in (BRAID, PLUS, FANO):
            for _ in range(40):
                order = tuple(source.sample(lot.lines, lot.many))
                expected = plainly_history(lot, order)
                self.assertIs(is_history(lot, order), expected)
                told[expected] += 1
        self.assertGreater(min(told.values()), 30)

    def test_great_lots(self):
        whole = all_lines(3)
        self.assertIs(is_history(whole, history_by_point(whole, Z)), True)
        self.assertIs(is_history(Lot(0, PENCIL), PENCIL), True)
        self.assertIs(is_history(Lot(0, PENCIL[:12] + (Z,)), PENCIL[:12] + (Z,)), True)
        self.assertIs(is_history(Lot(0, PENCIL[:12] + (Z,)), (Z,) + PENCIL[:12]), True)
        self.assertIs(is_history(Lot(0, GENERAL[:13]), GENERAL[:13]), False)
        for lot in (whole, Lot(0, PENCIL), Lot(0, PENCIL[:10]), Lot(0, GENERAL[:10])):
            self.assert_raises(TooMany(9), history, lot)
        self.assertIs(is_history(Lot(0, PENCIL[:9]), history(Lot(0, PENCIL[:9]))), True)

    def test_no_histories(self):
        lines = BRAID.lines
        for value in (*wrong_values(), list(lines), lines[:-1], lines + lines[:1], lines[:-1] + lines[:1], lines[:-1] + ((1, 1, 1),),
                      tuple(map(list, lines)), lines[:-1] + ((True, 0, 0),), lines[:-1] + ((1, False, 0),), lines[:-1] + (None,), ()):
            self.assertIs(is_history(BRAID, value), False)
            self.assertIs(is_history(FIVE, value), False)
        self.assertIs(is_history(BRAID, lines), True)
        self.assertEqual([is_history(ONE, value) for value in ((X,), ((True, 0, 0),), (Y,), X, ())], [True, False, False, False, False])

    def test_cubes(self):
        # [14.4]
        self.assertEqual([degrees_of(CUBES), history(CUBES)], [(4, 4), None])
        self.assertEqual([len(CUBES.points_on(line)) for line in CUBES], [4] * 9)
        self.assertEqual([is_free(CUBES.without_line(line)) for line in CUBES], [False] * 9)
        roots = [(1, 7 - k, 0) for k in (1, 2, 4)]
        lines = [*roots, *[(0, *line[:2]) for line in roots], *[(1, 0, line[1]) for line in roots]]
        self.assertEqual(Lot(7, tuple(lines)), CUBES)
        source = random.Random(174)
        for _ in range(20):
            self.assertIs(is_history(CUBES, tuple(source.sample(CUBES.lines, 9))), False)

    def test_the_last_line_need_not_have_the_fewest_points(self):
        # [14.5]
        lot = Lot(0, PENCIL[:3] + (Z,))
        counts = {line: len(lot.points_on(line)) for line in lot.lines}
        order = PENCIL[:3] + (Z,)
        self.assertIs(is_history(lot, order), True)
        self.assertEqual([counts[Z], min(counts.values())], [3, 2])


class PartsTest(Checks, unittest.TestCase):
    def test_parts(self):
        for lot in (BRAID, FIVE, TRI, ONE, PLUS, FAN, FANO, Lot(0, GENERAL[:5]), Lot(0, PENCIL[:6])):
            for many in range(1, lot.many + 1):
                expected = [lot.part(lines) for lines in itertools.combinations(lot.lines, many) if is_free(lot.part(lines))]
                found = list(each_free_part(lot, many))
                self.assertEqual(found, expected)
                self.assertEqual([part.lines for part in found], sorted(part.lines for part in expected))
        self.assertEqual([len(list(each_free_part(CUBES, many))) for many in (1, 2, 3, 8, 9)], [9, 36, 84, 0, 1])
        self.assertEqual(list(each_free_part(ONE, 1)), [ONE])

    def test_histories_are_chains_of_parts(self):
        for lot in free_lots():
            if lot.many <= 7 and history(lot) is not None:
                for many in range(1, lot.many + 1):
                    self.assertIn(Lot(lot.prime, history(lot)[:many]), list(each_free_part(lot, many)))

    def test_errors(self):
        for value in (*wrong_values(), 0, 7, -1, 10 ** 60, True, "1"):
            if value not in (1, 4) or value is True:
                self.assert_raises(InvalidNumber(value), lambda: list(each_free_part(BRAID, value)))
                self.assert_raises(InvalidNumber(value), lambda: list(each_free_part(Lot(0, PENCIL[:5]), value)))
        self.assert_raises(InvalidNumber(11), lambda: list(each_free_part(Lot(0, PENCIL[:10]), 11)))
        for lot in (Lot(0, PENCIL[:10]), all_lines(3)):
            for many in (1, lot.many):
                self.assert_raises(TooMany(9), lambda: list(each_free_part(lot, many)))
        self.assertEqual(len(list(each_free_part(Lot(0, PENCIL[:9]), 2))), 36)
        for arguments in ((None, 1), (BRAID, 0), (Lot(0, PENCIL), 3)):
            made = each_free_part(*arguments)
            self.assertTrue(inspect.isgenerator(made))
            self.assertNotEqual(outcome(next, made)[0], "returned")

    def test_lots_stay(self):
        for lot in (BRAID, FIVE, ONE, FANO):
            for call in (modular_points, history, lambda one: list(each_free_part(one, 1)), lambda one: is_history(one, one.lines),
                         lambda one: missing_join(one, Z), lambda one: history_by_point(one, Z)):
                outcome(call, lot)
                self.assertEqual(lot, Lot(lot.prime, lot.lines))


if __name__ == "__main__":
    unittest.main()
