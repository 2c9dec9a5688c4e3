"""A line more or less: [0.19], [12.1] to [12.6] and their functions."""

import random
import unittest

from support import Checks, outcome, wrong_values
from test_free import CUBES, FANO, free_lots, many_lots
from test_lines import NO_TRIPLES, plain_triples, some_triples
from test_lots import BRAID, FIVE, GENERAL, PENCIL, X, Y, Z
from test_primes import FAN, PLUS
from test_rows import TRI
from tangentrows.errors import InvalidLine, InvalidLot, InvalidOperation, Refused, TooMany
from tangentrows.free import deeds as module
from tangentrows.free.deeds import (degrees_with, degrees_without, free_by_points, free_lines, is_points_paper, point_counts,
                                    points_paper, whole_degrees)
from tangentrows.free.free import degrees_of, is_free
from tangentrows.plane.lines import meet
from tangentrows.plane.lots import Lot
from tangentrows.plane.primes import all_lines
from tangentrows.press.pairs import degrees_on

ONE = Lot(0, (X,))
# Whole degrees, 4 and 4, but not free; each line has four points.
NONET = Lot(3, ((0, 0, 1), (0, 1, 0), (0, 1, 2), (1, 0, 0), (1, 0, 1), (1, 1, 1), (1, 1, 2), (1, 2, 0), (1, 2, 2)))
# Whole degrees, 4 and 4, but not free; the line (1, 2, 3) has six points, which is 2 more than 4.
NEAR = Lot(7, ((0, 1, 1), (1, 1, 0), (1, 2, 1), (1, 2, 2), (1, 2, 3), (1, 3, 2), (1, 4, 3), (1, 5, 4), (1, 6, 1)))
WORDS = ("bundle", "free", "odd", "not free")


def plain_points(lot, line):
    """How many points a line has, by the meets with the other lines."""
    return len({meet(lot.prime, line, other) for other in lot.lines if other != line})


def plain_whole(lot):
    """The whole degrees, tried one by one."""
    n = lot.many
    found = [(d, n - 1 - d) for d in range(n) if 2 * d <= n - 1 and d * (n - 1 - d) == lot.rest]
    return found[0] if found else None


def plain_paper(lot, value):
    """Whether the value is a points paper, by [12.4] and [12.5] as they stand."""
    whole = plain_whole(lot)
    if value == ("bundle",):
        return len(lot.points) <= 1
    if value == ("odd",):
        return whole is None
    word, line = value
    if whole is None:
        return False
    d, e = whole
    s = plain_points(lot, line)
    if word == "free":
        return s in (d + 1, e + 1)
    return word == "not free" and (s > e + 1 if line in lot.lines else s < d + 1)


def planes(lot, source):
    """Many lines of the plane: those of the lot, those through two of its points, and others."""
    if lot.prime and lot.prime <= 5:
        return plain_triples(lot.prime)
    if lot.prime:
        return [*lot.lines, *source.sample(plain_triples(lot.prime), 20)]
    found = [*lot.lines, *some_triples(source, 10, 2), *some_triples(source, 5, 900), X, Y, Z, (1, 1, 0), (1, 0, 1), (1, 1, 1)]
    return list(dict.fromkeys(found))


def lots_of_all_kinds():
    yield from many_lots()
    yield from (CUBES, NONET, NEAR, all_lines(3), Lot(0, PENCIL), Lot(0, PENCIL[:12] + (Z,)), Lot(0, GENERAL[:13]), Lot(0, GENERAL[:12]))
    source = random.Random(151)
    for prime in (2, 3, 5, 7):
        for many in (5, 7, 8, 9, 10, 12, 13):
            triples = plain_triples(prime)
            if many <= len(triples):
                yield Lot(prime, tuple(source.sample(triples, many)))


class WholeTest(Checks, unittest.TestCase):
    def test_constant(self):
        self.assert_same(module.MAX_LINES, 13)

    def test_whole_degrees(self):
        told = {True: 0, False: 0}
        for lot in lots_of_all_kinds():
            found = whole_degrees(lot)
            self.assert_same(found, plain_whole(lot))
            told[found is None] += 1
            if is_free(lot):
                self.assertEqual(found, degrees_of(lot))
        self.assertGreater(min(told.values()), 5)
        self.assert_same([whole_degrees(lot) for lot in (ONE, Lot(0, PENCIL), NONET)], [(0, 0), (0, 12), (4, 4)])

    def test_point_counts(self):
        for lot in lots_of_all_kinds():
            found = point_counts(lot)
            self.assert_same(list(found), list(lot.lines))
            self.assertEqual(found, {line: plain_points(lot, line) for line in lot.lines})
        self.assert_same(list(point_counts(ONE).items()), [(X, 0)])
        self.assertEqual(set(point_counts(Lot(0, PENCIL)).values()), {1})
        self.assertEqual(set(point_counts(Lot(0, GENERAL[:13])).values()), {12})
        found = point_counts(BRAID)
        found[X] = 9
        self.assertEqual(point_counts(BRAID)[X], 3)

    def test_errors(self):
        for value in wrong_values():
            if not isinstance(value, Lot):
                for call in (whole_degrees, point_counts, points_paper, free_by_points, free_lines):
                    self.assert_raises(InvalidLot, call, value)
                self.assert_raises(InvalidLot, is_points_paper, value, ("odd",))
                self.assert_raises(InvalidLot, degrees_without, value, None)
                self.assert_raises(InvalidLot, degrees_with, value, None)


class PointsTest(Checks, unittest.TestCase):
    def test_the_lesser_degree(self):
        # [12.3], for each number of points that comes.
        source = random.Random(152)
        told = set()
        for lot in lots_of_all_kinds():
            n = lot.many
            for line in planes(lot, source):
                s, pair = plain_points(lot, line), degrees_on(lot, line)
                if s == 0:
                    continue
                self.assertGreaterEqual(pair[0], min(s - 1, n - s))
                inside = line in lot.lines
                if (inside and 2 * s >= n) or (not inside and 2 * s <= n + 2):
                    self.assertEqual(pair, tuple(sorted((n - s, s - 1))))
                    told.add((inside, s))
        self.assertGreater(len(told), 15)

    def test_what_lines_show(self):
        # [12.4]
        source = random.Random(153)
        told = {}
        for lot in lots_of_all_kinds():
            whole = whole_degrees(lot)
            self.assertTrue(whole is not None or not is_free(lot))
            if whole is None:
                continue
            d, e = whole
            for line in planes(lot, source):
                s, inside = plain_points(lot, line), line in lot.lines
                if s in (d + 1, e + 1):
                    self.assertIs(is_free(lot), True)
                    told["free", inside] = True
                elif (inside and s > e + 1) or (not inside and s < d + 1):
                    self.assertIs(is_free(lot), False)
                    told["not free", inside] = True
                if inside:
                    self.assertFalse(d + 1 < s < e + 1)
        self.assertEqual(len(told), 4)

    def test_papers(self):
        told = {}
        for lot in lots_of_all_kinds():
            paper = points_paper(lot)
            told[paper and paper[0]] = True
            if paper is None:
                self.assertIsNone(free_by_points(lot))
                self.assertTrue(not lot.is_bundle and whole_degrees(lot) is not None)
                self.assertFalse(any(plain_paper(lot, (word, line)) for word in WORDS for line in lot.lines if word not in ("bundle",
                    "odd")))
                continue
            self.assertIs(type(paper), tuple)
            self.assertIs(plain_paper(lot, paper), True)
            self.assertIs(is_points_paper(lot, paper), True)
            self.assertIs(free_by_points(lot), paper[0] in ("bundle", "free"))
            self.assertIs(free_by_points(lot), is_free(lot))
        self.assertEqual(set(told), {None, *WORDS})
        self.assertEqual([points_paper(lot) for lot in (CUBES, NONET)], [None, None])
        self.assertEqual([is_free(lot) for lot in (CUBES, NONET)], [True, False])
        self.assertEqual([points_paper(lot) for lot in (ONE, Lot(0, PENCIL), Lot(0, GENERAL[:13]))], [("bundle",), ("bundle",), ("odd",)])

    def test_all_papers(self):
        source = random.Random(154)
        told = {}
        for lot in lots_of_all_kinds():
            right = [(word,) for word in ("bundle", "odd") if plain_paper(lot, (word,))]
            for line in planes(lot, source):
                for word in WORDS:
                    value = (word, line)
                    expected = word in ("free", "not free") and plain_paper(lot, value)
                    self.assertIs(is_points_paper(lot, value), expected)
                    if expected:
                        right.append(value)
                        told[word, line in lot.lines] = True
            for word in ("bundle", "odd", "free", "not free"):
                self.assertIs(is_points_paper(lot, (word,)), (word,) in right)
            # No lot has papers of both kinds.
            self.assertLessEqual(len({value[0] in ("bundle", "free") for value in right}), 1)
        self.assertEqual(len(told), 4)

    def test_papers_of_bundles(self):
        pencil = Lot(0, PENCIL[:4])
        for value in (("bundle",), ("free", PENCIL[0]), ("free", X), ("free", (1, 9, 0)), ("free", Z), ("free", (1, 2, 3))):
            self.assertIs(is_points_paper(pencil, value), True)
        self.assertEqual([is_points_paper(ONE, value) for value in (("bundle",), ("free", X), ("free", Y), ("not free", X), ("odd",))],
                         [True, False, True, False, False])

    def test_no_papers(self):
        for lot in (BRAID, FIVE, FAN, ONE, FANO):
            for value in (*wrong_values(), "bundle", ("bundle", X), ("odd", X), ["bundle"], ["odd"], ("Bundle",), ("free",),
                          ("not free",),
                          ("free", list(X)), ("free", X, X), ["free", X], ("free", ("free", X)), ("free", None), (None, X), (X, "free"),
                          ("free", (True, 0, 0)), ("free", (1, False, 0)), ("free", (2, 0, 0)), ("free", (0, 0, 0)),
                          ("free", (1, 1001, 0)),
                          ("not free", (False, 0, 1)), (("free", X),), ()):
                self.assertIs(is_points_paper(lot, value), False, (lot.lines, value))
        self.assertIs(is_points_paper(FANO, ("free", (1, 2, 0))), False)
        self.assertIs(is_points_paper(BRAID, ("free", X)), True)


class LessTest(Checks, unittest.TestCase):
    def test_without(self):
        told = {True: 0, False: 0}
        for lot in [*free_lots(), CUBES, all_lines(3), Lot(0, PENCIL[:12] + (Z,)), Lot(0, PENCIL)]:
            if lot.many == 1:
                continue
            d, e = degrees_of(lot)
            kept = []
            for line in lot.lines:
                s, less = plain_points(lot, line), lot.without_line(line)
                self.assertEqual(s in (d + 1, e + 1), is_free(less))
                self.assertTrue(s <= d + 1 or s == e + 1)
                found = degrees_without(lot, line)
                self.assert_same(found, degrees_of(less))
                if s == d + 1:
                    self.assertEqual(sorted(found), sorted((d, e - 1)))
                elif s == e + 1:
                    self.assertEqual(found, (d - 1, e))
                told[found is None] += 1
                if found is not None:
                    kept.append(line)
            self.assert_same(free_lines(lot), tuple(kept))
        self.assertGreater(min(told.values()), 5)

    def test_free_lines(self):
        self.assert_same([free_lines(ONE), free_lines(CUBES), free_lines(Lot(0, PENCIL))], [(), (), Lot(0, PENCIL).lines])
        self.assert_same(free_lines(Lot(0, PENCIL[:2])), Lot(0, PENCIL[:2]).lines)
        self.assert_same(free_lines(TRI), TRI.lines)
        for lot in (FIVE, FAN, NONET, Lot(0, GENERAL[:13])):
            self.assert_raises(Refused(("not free",)), free_lines, lot)

    def test_with(self):
        source = random.Random(155)
        told = {True: 0, False: 0}
        for lot in free_lots():
            d, e = degrees_of(lot)
            for line in planes(lot, source):
                if line in lot.lines:
                    continue
                s = plain_points(lot, line)
                self.assertGreaterEqual(s, d + 1)
                more = lot.with_line(line)
                self.assertEqual(s in (d + 1, e + 1), is_free(more))
                found = degrees_with(lot, line)
                self.assert_same(found, degrees_of(more))
                told[found is None] += 1
        self.assertGreater(min(told.values()), 20)
        self.assert_same([degrees_with(ONE, Y), degrees_with(ONE, (1, 2, 3)), degrees_with(TRI, (1, 1, 0))], [(0, 1), (0, 1), (1, 2)])

    def test_twelve_and_thirteen_lines(self):
        twelve = Lot(0, PENCIL[:12])
        self.assert_same([degrees_with(twelve, PENCIL[12]), degrees_with(twelve, Z), degrees_with(twelve, (1, 20, 0))],
                         [(0, 12), (1, 11), (0, 12)])
        thirteen = all_lines(3)
        self.assert_same(degrees_without(thirteen, X), (3, 8))
        for lot, line in ((Lot(0, PENCIL), Z), (Lot(0, PENCIL[:12] + (Z,)), PENCIL[12]), (Lot(0, PENCIL), (1, 20, 0))):
            self.assert_raises(TooMany(13), degrees_with, lot, line)
        self.assert_raises(InvalidOperation, degrees_with, thirteen, X)
        self.assert_raises(InvalidOperation, degrees_with, Lot(0, PENCIL), X)
        # That the lot is not free comes ahead of the number of its lines.
        self.assert_raises(Refused(("not free",)), degrees_with, Lot(0, GENERAL[:13]), Z)

    def test_errors(self):
        for line in (*NO_TRIPLES, (1, 1001, 0)):
            for call in (degrees_without, degrees_with):
                for lot in (BRAID, FIVE, ONE):
                    self.assert_raises(InvalidLine, call, lot, line)
        self.assert_raises(InvalidLine, degrees_without, FANO, (1, 2, 0))
        for lot, line in ((BRAID, (1, 1, 0)), (FIVE, (1, 1, 0)), (ONE, X), (ONE, Y), (Lot(0, PENCIL), Z), (FAN, (1, 0, 1))):
            self.assert_raises(InvalidOperation, degrees_without, lot, line)
        for lot in (BRAID, FIVE, FAN, ONE, FANO):
            for line in lot:
                self.assert_raises(InvalidOperation, degrees_with, lot, line)
        for lot in (FIVE, FAN, NONET):
            self.assert_raises(Refused(("not free",)), degrees_without, lot, lot.lines[0])
            other = [line for line in ((1, 1, 0), (1, 0, 2), (1, 1, 1), (0, 1, 1)) if line not in lot][0]
            self.assert_raises(Refused(("not free",)), degrees_with, lot, other)

    def test_what_is_not_true(self):
        # [12.6]: whole degrees do not suffice; no line of CUBES has d + 1 points.
        self.assertEqual([whole_degrees(FAN), is_free(FAN)], [(3, 3), False])
        self.assertEqual([degrees_of(CUBES), set(point_counts(CUBES).values())], [(4, 4), {4}])
        four = FIVE.without_line((1, 2, 3))
        self.assertEqual([is_free(FIVE), is_free(four), is_free(four.without_line((1, 1, 1)))], [False, False, True])
        less = PLUS.without_line(X)
        self.assertEqual([is_free(less), is_free(less.with_line(X))], [False, True])
        # [0.21]: a free lot need not be free without some line, and there need be no line without which it is.
        self.assertEqual([degrees_without(PLUS, X), free_lines(CUBES)], [None, ()])

    def test_lots_stay(self):
        for lot in (BRAID, FIVE, CUBES, ONE):
            for call in (whole_degrees, point_counts, points_paper, free_by_points, free_lines,
                         lambda one: degrees_without(one, one.lines[0]), lambda one: degrees_with(one, (1, 2, 0)),
                         lambda one: is_points_paper(one, ("free", X))):
                lines, points = lot.lines, lot.points
                outcome(call, lot)
                self.assertEqual([lot.lines, lot.points], [lines, points])


if __name__ == "__main__":
    unittest.main()
