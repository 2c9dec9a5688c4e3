"""The whole program: one lot says the same wherever it is asked, and what [0.17] to [0.21] say of all modules together."""

import itertools
import random
import unittest

from support import Checks, kept_by
from test_deeds import NONET, ONE
from test_free import CUBES, FANO, degrees_by_counts, many_lots
from test_lines import plain_triples, some_triples
from test_lots import BRAID, FIVE, GENERAL, PENCIL, X, Z
from test_primes import FAN, PLUS
from test_rows import TRI
from tangentrows.base.tables import determinant
from tangentrows.chain.chains import (degrees_by_point, each_free_part, history, history_by_point, is_history, missing_join,
                                      modular_points)
from tangentrows.count.counted import counted_paper, sum_of_products
from tangentrows.desk.desks import Desk
from tangentrows.desk.promises import does_hold, is_paper_against, paper_against
from tangentrows.errors import Refused
from tangentrows.form.forms import degree_of_all
from tangentrows.free.deeds import degrees_with, degrees_without, free_by_points, free_lines, point_counts, points_paper, whole_degrees
from tangentrows.free.free import are_free_rows, degrees_of, free_rows, is_free
from tangentrows.mark.euclid import END, degrees_by_division, pairs_by_growth
from tangentrows.mark.marks import Marks
from tangentrows.mark.pairs import degrees
from tangentrows.mark.places import degrees_by_counts as degrees_of_counts
from tangentrows.plane.lots import Lot
from tangentrows.plane.primes import all_lines, keeps_points, reduced
from tangentrows.press.lines import marks_on
from tangentrows.press.pairs import bar_on, degrees_on, gap, is_bar, press, two_pressed
from tangentrows.row.generators import are_generators, degrees_left, generator_degrees, generators, relation_degrees
from tangentrows.row.rows import count_killing, is_tangent, least_degree, led_row
from tangentrows.text.formats import read_lot, read_marks, write_lot, write_marks
from tangentrows.text.shell import Shell

TABLES = (((1, 1, 0), (0, 1, 0), (0, 0, 1)), ((0, 0, 1), (1, 0, 0), (0, 1, 1)), ((2, 1, 0), (1, 0, 3), (0, 1, 1)))


def all_lots_over_2():
    for many in range(1, 8):
        for lines in itertools.combinations(FANO.lines, many):
            yield Lot(2, lines)


def various_lots():
    yield from many_lots()
    yield from (CUBES, NONET, ONE, Lot(0, GENERAL[:8]), Lot(0, PENCIL[:8] + (Z,)), all_lines(3))
    source = random.Random(251)
    for prime in (3, 5, 7):
        for many in (4, 5, 6, 7, 8, 9):
            yield Lot(prime, tuple(source.sample(plain_triples(prime), many)))


def answers(lot):
    """What the lot says, as far as a table that leads it changes nothing of it."""
    found = {
        "numbers": sorted(lot.number_at(point) for point in lot.points), "sums": (lot.many, lot.second, lot.rest, lot.squares),
        "degrees": degrees_of(lot), "whole": whole_degrees(lot), "points": sorted(point_counts(lot).values()),
             "told": free_by_points(lot),
        "pressed": sorted(degrees_on(lot, line) for line in lot.lines), "modular": len(modular_points(lot)),
        "paper": (points_paper(lot) or (None,))[0], "most": [does_hold(lot, ("most", most)) for most in range(1, 8)],
    }
    if lot.many <= 7:
        found["least"] = least_degree(lot)
        found["killing"] = [count_killing(lot, degree) for degree in range(6)]
        found["history"] = history(lot) is None
        found["parts"] = [len(list(each_free_part(lot, many))) for many in range(1, lot.many + 1)]
    if lot.many <= 6:
        found["generators"] = (generator_degrees(lot), relation_degrees(lot))
    return found


class OneLotTest(Checks, unittest.TestCase):
    def check(self, lot):
        """All ways to ask whether a lot is free, and with which degrees, agree."""
        pair, free = degrees_of(lot), is_free(lot)
        self.assertEqual(free, pair is not None)
        self.check_lines(lot, pair)
        self.assertIn(free_by_points(lot), (None, free))
        self.assertEqual(does_hold(lot, ("free",)), free)
        self.assertEqual(Shell(lot).say("degrees"), f"{pair[0]} {pair[1]}" if free else "not free")
        if free:
            self.assertEqual(whole_degrees(lot), pair)
            self.assertIs(does_hold(lot, ("degrees", *pair)), True)
            self.assertIs(Desk(lot).promise(("degrees", *pair)), True)
        else:
            paper = paper_against(lot, ("free",))
            self.assertIs(is_paper_against(lot, ("free",), paper), True)
            with self.assertRaises(Refused) as caught:
                Desk(lot).promise(("free",))
            self.assertEqual(kept_by(caught.exception)[:2], ("broken", ("free",)))
        for point in modular_points(lot):
            self.assertEqual(degrees_by_point(lot, point), pair)
            self.assertIs(is_history(lot, history_by_point(lot, point)), True)
            self.assertIsNone(missing_join(lot, point))
        if lot.many <= 7:
            self.check_rows(lot, pair)
        if lot.many <= 6 and (lot.prime or max(abs(n) for line in lot for n in line) <= 20):
            self.check_counted(lot, pair)

    def check_lines(self, lot, pair):
        for line in (*lot.lines, X, (1, 1, 0), (1, 0, 1), (1, 1, 1)):
            low, high = degrees_on(lot, line)
            self.assertEqual([low + high, low * high + gap(lot, line)], [lot.many - 1, lot.rest])
            self.assertEqual((low, high) == pair, gap(lot, line) == 0)
            self.assertEqual(pair is None, gap(lot, line) > 0)
            bar = bar_on(lot, line)
            self.assertEqual(bar is None, pair is not None)
            self.assertTrue(bar is None or is_bar(lot, line, bar))
            self.assertIs(does_hold(lot, ("pressed", line, low, high)), True)
        for line in lot.lines:
            marks = marks_on(lot, line)
            found = degrees(marks)
            self.assertEqual([found, tuple(degree_of_all(one) for one in pairs_by_growth(marks))], [degrees_on(lot, line)] * 2)
            self.assertIn(degrees_of_counts(marks), (None, found))
            self.assertEqual(degrees(read_marks(write_marks(marks))), found)
            if END not in marks:
                self.assertEqual(degrees_by_division(marks), found)

    def check_rows(self, lot, pair):
        self.assertEqual(degrees_by_counts(lot), pair)
        found = history(lot)
        self.assertTrue(found is None or (pair is not None and is_history(lot, found)))
        if pair is None:
            self.assertRaises(Refused, free_rows, lot)
        else:
            two = free_rows(lot)
            self.assertEqual(tuple(degree_of_all(row) for row in two), pair)
            self.assertEqual(least_degree(lot), pair[0])
            for line in lot.lines[:2]:
                for row in two:
                    self.assertIs(type(press(lot, line, row)), tuple)
        if lot.many <= 6:
            rows = generators(lot)
            self.assertEqual([len(rows) == 2, are_free_rows(lot, rows)], [pair is not None] * 2)
            self.assertEqual(generator_degrees(lot) == pair, pair is not None)
            self.assertIs(are_generators(lot, rows), True)

    def check_counted(self, lot, pair):
        counts = {line: 1 for line in lot.lines}
        paper = counted_paper(lot, counts)
        self.assertEqual(sum_of_products(lot, counts), lot.second)
        if paper is None:
            self.assertTrue(pair is None or pair[1] > 4)
        else:
            self.assertEqual(sorted(degree_of_all(row) for row in paper), sorted((1, *pair)))

    def test_all_lots_over_2(self):
        told = [0, 0]
        for lot in all_lots_over_2():
            self.check(lot)
            told[is_free(lot)] += 1
        self.assertEqual([sum(told), min(told) > 5], [127, True])

    def test_various_lots(self):
        for lot in various_lots():
            self.check(lot)

    def test_behind_its_text(self):
        for lot in various_lots():
            self.assertEqual(answers(read_lot(write_lot(lot))), answers(lot))

    def test_led_by_a_table(self):
        for lot in (BRAID, FIVE, FAN, PLUS, TRI, ONE, FANO, CUBES, NONET, Lot(0, PENCIL[:5]), Lot(5, FIVE.lines),
                    Lot(3, ((1, 0, 0), (0, 1, 0), (1, 1, 1), (1, 2, 0)))):
            expected = answers(lot)
            for table in TABLES:
                table = tuple(tuple(n % lot.prime for n in row) for row in table) if lot.prime else table
                if determinant(lot.prime, table) == 0:
                    continue
                other = lot.led(table)
                self.assertEqual(answers(other), expected)
                shell = Shell(lot)
                shell.say("led " + " ".join(",".join(map(str, row)) for row in table))
                self.assertEqual([shell.lot, answers(shell.lot)], [other, expected])
                if lot.many <= 6:
                    rows = tuple(led_row(lot.prime, row, table) for row in generators(lot))
                    self.assertIs(are_generators(other, rows), True)
                if lot.many <= 7 and is_free(lot):
                    rows = tuple(led_row(lot.prime, row, table) for row in free_rows(lot))
                    self.assertTrue(all(is_tangent(other, row) for row in rows) and are_free_rows(other, rows))

    def test_a_line_more_or_less(self):
        # [0.19], by desks that promise that their lots stay free
        for lot in (BRAID, PLUS, FANO, TRI, Lot(0, PENCIL[:4] + (Z,)), CUBES):
            desk = Desk(lot)
            desk.promise(("free",))
            d, e = degrees_of(lot)
            for line in (*lot.lines, X, (1, 1, 0), (1, 0, 1), (1, 1, 1), (0, 1, 1)):
                inside = line in lot
                deed = ("take" if inside else "put", line)
                s = len(lot.points_on(line))
                free = s in (d + 1, e + 1)
                self.assertEqual(desk.would((deed,)), () if free else (("free",),))
                pair = degrees_without(lot, line) if inside else degrees_with(lot, line)
                self.assertEqual(pair is not None, free)
                if inside:
                    self.assertEqual(len(degrees_left(lot, line)), 2 if free else 3)
                    self.assertEqual(line in free_lines(lot), free)


class StatementsTest(Checks, unittest.TestCase):
    def test_primes(self):
        # [0.20]
        source = random.Random(252)
        told = 0
        others = [Lot(0, tuple(dict.fromkeys(some_triples(source, many, 1)))) for many in (4, 5, 6, 7)]
        for lot in (BRAID, FIVE, FAN, PLUS, TRI, Lot(0, PENCIL[:5]), *others):
            for prime in (2, 3, 5, 7, 11, 13):
                try:
                    less = reduced(lot, prime)
                except Refused:
                    self.assertIs(keeps_points(lot, prime), False)
                    continue
                if less.rest == lot.rest and is_free(less):
                    self.assertEqual(degrees_of(lot), degrees_of(less))
                    told += 1
        self.assertGreater(told, 20)

    def test_the_least_degree(self):
        # [0.18], for all lots over 2
        for lot in all_lots_over_2():
            r, n, c = least_degree(lot), lot.many, lot.rest
            self.assertGreaterEqual(c, r * (n - 1 - r))
            self.assertEqual(c == r * (n - 1 - r), is_free(lot))
            if 2 * r >= n:
                self.assertGreaterEqual(c, r * (n - 1 - r) + (2 * r - n + 1) * (2 * r - n + 2) // 2)

    def test_what_is_not_true(self):
        # [0.21], in its order
        x, y, one, minus, two = (1, 0), (0, 1), (1, 1), (1, -1), (1, 2)
        self.assertEqual([degrees(Marks(0, {x: 3, y: 3, one: 1, other: 1})) for other in (minus, two)], [(3, 5), (4, 4)])
        self.assertEqual(degrees(Marks(2, {x: 2, y: 2, one: 2})), (2, 4))
        self.assertEqual([is_free(PLUS), is_free(PLUS.part(PLUS.lines[:-1]))], [True, False])
        self.assertEqual([FAN.factors, (1, -3 - 3, 3 * 3), is_free(FAN)], [(1, -6, 9), (1, -6, 9), False])
        self.assertEqual([degrees_on(FAN, line) for line in (X, Z)], [(2, 4), (1, 5)])
        self.assertEqual([degrees_without(PLUS, X), degrees_without(PLUS, (1, 1, 0))], [None, (2, 3)])
        self.assertEqual([is_free(CUBES), free_lines(CUBES)], [True, ()])
        self.assertEqual([is_free(PLUS), modular_points(PLUS)], [True, ()])

    def test_pairs_and_rows_agree(self):
        # Two pressed pairs of a free lot come from its free rows.
        for lot in (BRAID, PLUS, TRI, FANO, Lot(0, PENCIL[:4] + (Z,))):
            for line in (*lot.lines[:3], (1, 1, 1)):
                pairs = two_pressed(lot, line)
                pressed = tuple(press(lot, line, row) for row in free_rows(lot))
                self.assertEqual(len(pairs), 2)
                self.assertIs(does_hold(lot, ("pressed", line, *degrees_of(lot))), True)
                self.assertIs(is_paper_against(lot, ("pressed", line, 0, 12), ("two", pressed)), True)
                self.assertIs(is_paper_against(lot, ("pressed", line, 0, 12), ("two", pairs)), True)


if __name__ == "__main__":
    unittest.main()
