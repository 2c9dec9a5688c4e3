"""Promises and papers against them: [17.1], [17.2] and their functions."""

import random
import unittest

from support import Checks, outcome, wrong_values
from test_chains import plainly_missing, plainly_modular
from test_deeds import NONET, ONE, planes
from test_free import CUBES, FANO, many_lots
from test_lots import BRAID, FIVE, GENERAL, PENCIL, X, Y, Z
from test_primes import FAN, PLUS
from test_rows import TRI
from tangentrows.desk.promises import does_hold, is_paper_against, is_promise, paper_against
from tangentrows.errors import InvalidLot, InvalidNumber, InvalidPromise
from tangentrows.form.forms import Form
from tangentrows.free.free import degrees_of, is_free
from tangentrows.plane.lots import Lot
from tangentrows.plane.primes import all_lines
from tangentrows.press.pairs import bar_on, degrees_on, is_bar, two_pressed

FREE = ("free",)
# What is no promise over any prime.
NO_PROMISES = ("free", ["free"], ("Free",), ("free", 1), (), ("degrees",), ("degrees", 2), ("degrees", 3, 2), ("degrees", -1, 2),
               ("degrees", 1, 13),
               ("degrees", 13, 13), ("degrees", 1, 2, 3), ("degrees", True, 2), ("degrees", 0, True), ("degrees", "2", 3),
               ("degrees", (2, 3)),
               ["degrees", 2, 3], ("degrees", 2, None), ("degrees", 2, 10 ** 60), ("pressed",), ("pressed", X), ("pressed", X, 2),
               ("pressed", 2, 3),
               ("pressed", X, 3, 2), ("pressed", X, 0, 13), ("pressed", X, -1, 3), ("pressed", list(X), 2, 3),
               ("pressed", (2, 0, 0), 2, 3),
               ("pressed", (0, 0, 0), 2, 3), ("pressed", (True, 0, 0), 2, 3), ("pressed", X, (2, 3)), ("pressed", X, 2, 3, 4),
               ("pressed", X, True, 3),
               ("most",), ("most", 0), ("most", 14), ("most", -1), ("most", True), ("most", "3"), ("most", 3, 4), ("most", None),
               ("most", (3,)),
               ("most", 10 ** 60), ("modular",), ("modular", 1), ("modular", (0, 0, 0)), ("modular", (2, 0, 0)), ("modular", list(X)),
               ("modular", (True, 0, 0)), ("modular", X, Y), ("modular", *X), ("modular", (1, 0, 10 ** 60)), ("bar", X), (None,), (1,),
               ("",), (FREE,))


def promises_about(lot, source):
    """Many promises, right ones and wrong ones."""
    low, high = degrees_of(lot) or (0, lot.many - 1)
    yield FREE
    for d, e in {(low, high), (0, lot.many - 1), (1, max(1, lot.many - 2)), (2, 3), (3, 3), (0, 0), (low, min(12, high + 1)), (12, 12)}:
        if 0 <= d <= e <= 12:
            yield "degrees", d, e
    for line in source.sample(planes(lot, source), 5):
        d, e = degrees_on(lot, line)
        yield "pressed", line, d, e
        if d:
            yield "pressed", line, d - 1, min(12, e + 1)
        if d < e:
            yield "pressed", line, d, e - 1
    for most in (1, 2, 3, 4, 5, 12, 13):
        yield "most", most
    for point in (*source.sample(lot.points, min(4, len(lot.points))), X, Z, (1, 1, 1)):
        yield "modular", point


def plainly_holds(lot, promise):
    word = promise[0]
    if word == "free":
        return is_free(lot)
    if word == "degrees":
        return degrees_of(lot) == promise[1:]
    if word == "pressed":
        return degrees_on(lot, promise[1]) == promise[2:]
    if word == "most":
        return all(lot.number_at(point) <= promise[1] for point in lot.points)
    return promise[1] in lot.points and plainly_modular(lot, promise[1])


def bars(lot):
    """Papers against the promise that a lot is free, on several lines and with other bars."""
    for line in (*lot.lines[:2], X, (1, 1, 0), (1, 1, 1), Z):
        bar = bar_on(lot, line)
        if bar is not None:
            yield "bar", line, bar
            yield "bar", line, bar[::-1]
            if lot.prime == 0:
                yield "bar", line, (tuple(form * (10 ** 59) * (10 ** 59) for form in bar[0]), bar[1])


class PromisesTest(Checks, unittest.TestCase):
    def test_promises(self):
        for prime in (0, 2, 3, 7, 19):
            for value in (FREE, ("degrees", 0, 0), ("degrees", 12, 12), ("degrees", 0, 12), ("degrees", 2, 3), ("pressed", X, 0, 12),
                          ("pressed", (0, 1, 1), 6, 6), ("most", 1), ("most", 13), ("modular", (1, 1, 1)), ("modular", Z)):
                self.assertIs(is_promise(prime, value), True)
            for value in (*NO_PROMISES, *wrong_values()):
                self.assertIs(is_promise(prime, value), False, value)
        self.assertEqual([is_promise(prime, ("pressed", (1, -1, 0), 2, 3)) for prime in (0, 2, 3)], [True, False, False])
        self.assertEqual([is_promise(prime, ("pressed", (1, 2, 0), 2, 3)) for prime in (0, 2, 3)], [True, False, True])
        self.assertEqual([is_promise(prime, ("modular", (1, 2, 0))) for prime in (0, 2, 3)], [True, False, True])
        self.assertEqual([is_promise(0, ("pressed", (1, most, 0), 2, 3)) for most in (1000, 1001, -1001)], [True, False, False])
        self.assertEqual([is_promise(0, ("modular", (1, most, 0))) for most in (1001, 10 ** 60 - 1, 10 ** 60)], [True, True, False])

    def test_errors(self):
        for value in (*wrong_values(), 4, 23):
            if value not in (0, 2, 3, 5) or isinstance(value, bool):
                self.assert_raises(InvalidNumber(value), is_promise, value, FREE)
        for value in wrong_values():
            if not isinstance(value, Lot):
                self.assert_raises(InvalidLot, does_hold, value, None)
                self.assert_raises(InvalidLot, paper_against, value, None)
                self.assert_raises(InvalidLot, is_paper_against, value, None, None)
        for lot in (BRAID, FANO, ONE, Lot(0, PENCIL)):
            for value in (*NO_PROMISES, *wrong_values()):
                self.assert_raises(InvalidPromise, does_hold, lot, value)
                self.assert_raises(InvalidPromise, paper_against, lot, value)
                self.assert_raises(InvalidPromise, is_paper_against, lot, value, None)
        self.assert_raises(InvalidPromise, does_hold, FANO, ("modular", (1, 2, 0)))
        self.assert_raises(InvalidPromise, does_hold, FANO, ("pressed", (1, -1, 0), 2, 4))

    def test_what_holds(self):
        source = random.Random(211)
        told = {}
        for lot in (*many_lots(), CUBES, NONET, all_lines(3), Lot(0, PENCIL), Lot(0, GENERAL[:13])):
            for promise in promises_about(lot, source):
                expected = plainly_holds(lot, promise)
                self.assertIs(does_hold(lot, promise), expected)
                paper = paper_against(lot, promise)
                self.assertEqual(paper is None, expected)
                if paper is not None:
                    self.assertIs(type(paper), tuple)
                    self.assertIs(is_paper_against(lot, promise, paper), True)
                    self.check(lot, promise, paper)
                told.setdefault((promise[0], expected), []).append(paper and paper[0])
        self.assertEqual(len(told), 10)
        self.assertEqual({word for words in told.values() for word in words},
                         {None, "bar", "many", "rest", "two", "point", "off", "lines"})

    def check(self, lot, promise, paper):
        """The paper is one by the words of [17.2]."""
        word = promise[0]
        if paper[0] == "bar":
            self.assertTrue(word in ("free", "degrees") and len(paper) == 3)
            self.assertIs(is_bar(lot, paper[1], paper[2]), True)
            self.assertIs(is_free(lot), False)
        if word == "degrees":
            d, e = promise[1:]
            if d + e != lot.many - 1:
                self.assert_same(paper, ("many", lot.many))
            elif d * e != lot.rest:
                self.assert_same(paper, ("rest", lot.rest))
            else:
                self.assertEqual(paper[0], "bar")
        elif word == "pressed":
            self.assertEqual([paper[0], len(paper)], ["two", 2])
            degrees = [max((u.degree - (promise[1] not in lot.lines) if u else -1), v.degree if v else -1) for u, v in paper[1]]
            self.assertEqual(tuple(degrees), degrees_on(lot, promise[1]))
        elif word == "most":
            self.assertTrue(paper[0] == "point" and lot.number_at(paper[1]) > promise[1])
        elif word == "modular" and promise[1] not in lot.points:
            self.assert_same(paper, ("off", promise[1]))
        elif word == "modular":
            self.assertTrue(paper[0] == "lines" and paper[1] < paper[2] and plainly_missing(lot, promise[1], *paper[1:]))

    def test_no_paper_against_what_holds(self):
        # A paper has to show something: whatever a promise that holds is told, it is none.
        source = random.Random(212)
        for lot in (BRAID, FANO, PLUS, TRI, ONE, Lot(0, PENCIL), CUBES, FIVE):
            holding = [promise for promise in promises_about(lot, source) if does_hold(lot, promise)]
            others = [other for other in (BRAID, FIVE, FAN) if other.prime == lot.prime]
            papers = [paper_against(other, promise) for other in others for promise in promises_about(other, source)]
            papers += [("many", lot.many), ("rest", lot.rest), ("off", X), ("point", Z), ("lines", *lot.lines[:2]), *bars(lot),
                       *[("two", two_pressed(lot, line)) for line in (X, Z)]]
            for promise in holding:
                for paper in (*papers, *wrong_values()):
                    self.assertIs(is_paper_against(lot, promise, paper), False)

    def test_bars(self):
        for lot in (FIVE, FAN, Lot(0, GENERAL[:6]), NONET, Lot(3, (X, Y, Z, (1, 1, 1)))):
            papers = list(bars(lot))
            self.assertGreater(len(papers), 5)
            for paper in papers:
                self.assertIs(is_paper_against(lot, FREE, paper), True)
                other = [line for line in (X, (1, 2, 1), (1, 0, 2)) if line != paper[1]][0]
                for value in (paper[1:], ("Bar", *paper[1:]), list(paper), (*paper, 1), ("bar", paper[1]),
                              ("bar", paper[1], list(paper[2])),
                              ("bar", paper[1], paper[2][:1]), ("bar", list(paper[1]), paper[2]), ("bar", paper[2], paper[1]),
                              ("bar", other, (paper[2][0], paper[2][0])), ("bar", (2, 0, 0), paper[2]), ("two", paper[2]),
                              ("bar", None, paper[2])):
                    self.assertIs(is_paper_against(lot, FREE, value), False)
        # On X the pressed degrees of FAN make less than the rest; a bar of another line is none there.
        bar = bar_on(FAN, Z)
        self.assertEqual([is_paper_against(FAN, FREE, ("bar", line, bar)) for line in (Z, X)], [True, False])
        self.assertIs(is_paper_against(FAN, FREE, ("bar", (0, 0, True), bar)), False)
        self.assertIs(is_paper_against(FAN, ("degrees", 3, 3), ("bar", Z, bar)), True)
        self.assertIs(is_paper_against(FAN, ("degrees", 2, 4), ("bar", Z, bar)), False)
        self.assertIs(is_paper_against(FAN, ("degrees", 2, 4), ("rest", 9)), True)
        self.assertIs(is_paper_against(FAN, ("degrees", 3, 3), ("rest", 9)), False)

    def test_degrees(self):
        for value, expected in ((("many", 6), True), (("many", 5), False), (("rest", 6), False), (("many", 6, 6), False),
                                (["many", 6], False), (("many",), False),
                                (("many", "6"), False), (("many", None), False)):
            self.assertIs(is_paper_against(BRAID, ("degrees", 2, 4), value), expected)
        for value, expected in ((("rest", 6), True), (("rest", 5), False), (("many", 6), False), (("rest", (6,)), False),
                                (("rest", True), False)):
            self.assertIs(is_paper_against(BRAID, ("degrees", 1, 4), value), expected)
        # True is not 1, and False not 0.
        for value, expected in ((("many", 1), True), (("many", True), False)):
            self.assertIs(is_paper_against(ONE, ("degrees", 0, 1), value), expected)
        for value, expected in ((("rest", 0), True), (("rest", False), False)):
            self.assertIs(is_paper_against(Lot(0, PENCIL[:3]), ("degrees", 1, 1), value), expected)
        self.assert_same([paper_against(ONE, ("degrees", 0, 1)), paper_against(Lot(0, PENCIL[:3]), ("degrees", 1, 1))],
                         [("many", 1), ("rest", 0)])
        self.assertIsNone(paper_against(Lot(0, PENCIL), ("degrees", 0, 12)))

    def test_pressed(self):
        for lot, line in ((FAN, X), (FAN, Z), (BRAID, (1, 2, 3)), (ONE, X), (ONE, Y), (CUBES, X)):
            two, (d, e) = two_pressed(lot, line), degrees_on(lot, line)
            right, wrong = ("pressed", line, d, e), ("pressed", line, d, e + 1)
            self.assertIs(is_paper_against(lot, right, ("two", two)), False)
            for value in (two, two[::-1], (tuple(form * 1 for form in two[0]), two[1])):
                self.assertIs(is_paper_against(lot, wrong, ("two", value)), True)
            for value in (("two", *two), ["two", two], ("two", list(two)), ("two", two[:1]), ("two", (two[0], two[0])), ("two", None),
                          two, ("bar", line, two),
                          ("two", (two[0], (Form(lot.prime, 2),) * 2)), ("Two", two), ("two",)):
                self.assertIs(is_paper_against(lot, wrong, value), False)
        two = two_pressed(FAN, X)
        great = (tuple(form * (10 ** 59) * (10 ** 59) for form in two[0]), two[1])
        self.assertIs(is_paper_against(FAN, ("pressed", X, 3, 3), ("two", great)), True)

    def test_most(self):
        for value, expected in ((("point", Z), True), (("point", X), False), (("point", (1, 0, -3)), False),
                                (("point", (5, 7, 9)), False),
                                (("point", (0, 0, 2)), False), (("point", (0, 0, True)), False), (("point", list(Z)), False),
                                (["point", Z], False),
                                (("point",), False), (("point", Z, Z), False), (("point", None), False), ((Z, "point"), False),
                                (("off", Z), False)):
            self.assertIs(is_paper_against(FAN, ("most", 4), value), expected, value)
            if value != ("point", Z):
                self.assertIs(is_paper_against(FAN, ("most", 5), value), False)
        for point in FAN.points:
            self.assertIs(is_paper_against(FAN, ("most", 1), ("point", point)), True)
        self.assertEqual([does_hold(Lot(0, PENCIL), ("most", most)) for most in (12, 13)], [False, True])
        self.assertEqual([does_hold(ONE, ("most", 1)), does_hold(TRI, ("most", 1)), does_hold(TRI, ("most", 2))], [True, False, True])

    def test_modular(self):
        for value, expected in ((("off", X), True), (("off", Y), False), (("off", (True, 0, 0)), False), (("off", list(X)), False),
                                (["off", X], False),
                                (("off", X, X), False), (("Off", X), False), (("lines", X), False), (("off",), False), (("lines", *PENCIL[:2]), False), (("off", None), False)):
            self.assertIs(is_paper_against(Lot(0, PENCIL), ("modular", X), value), expected)
        self.assertEqual([paper_against(ONE, ("modular", Z)), is_paper_against(ONE, ("modular", Z), ("off", Z))], [("off", Z), True])
        pair = (Z, (1, -1, 0))
        for value, expected in ((("lines", *pair), True), (("lines", *pair[::-1]), False), (("lines", pair), False),
                                (["lines", *pair], False),
                                (("lines", Z), False), (("lines", Z, Z), False), (("lines", (False, 0, 1), pair[1]), False),
                                (("lines", *pair, X), False),
                                (("off", (0, 1, 1)), False), (("lines", Z, (1, 1, 0)), False), (("Lines", *pair), False),
                                (("lines", Z, None), False)):
            self.assertIs(is_paper_against(BRAID, ("modular", (0, 1, 1)), value), expected, value)

    def test_values_stay(self):
        promise = ("pressed", X, 2, 4)
        for call in (does_hold, paper_against, lambda lot, one: is_paper_against(lot, one, ("two", None)),
                     lambda lot, one: is_promise(0, one)):
            for lot in (FAN, BRAID, ONE):
                outcome(call, lot, promise)
                self.assertEqual([lot, promise], [Lot(0, lot.lines), ("pressed", (1, 0, 0), 2, 4)])


if __name__ == "__main__":
    unittest.main()
