"""Desks and batches: [17.3] to [17.5]."""

import random
import unittest

from support import Checks, outcome, wrong_values
from test_deeds import ONE
from test_free import FANO
from test_lots import BRAID, FIVE, PENCIL, UNIT, X, Y, Z
from test_primes import PLUS
from test_promises import NO_PROMISES
from test_rows import TRI
from tangentrows.desk import desks as module
from tangentrows.desk.desks import Batch, Desk
from tangentrows.desk.promises import does_hold, is_paper_against
from tangentrows.errors import InvalidLot, InvalidNumber, InvalidOperation, InvalidPromise, NothingToUndo, Refused, TooMany, UnknownName
from tangentrows.plane.lots import Lot

FREE = ("free",)
TWICE = ((2, 0, 0), (0, 1, 0), (0, 0, 1))
FLAT = ((1, 0, 0), (2, 0, 0), (0, 0, 1))
GREAT = ((1, 0, 0), (0, 1, 0), (0, 0, 10 ** 59))
MOSTS = tuple(("most", most) for most in range(6, 14))
NO_DEEDS = (None, 1, True, "put", (), ("put",), ("put", X, Y), ["put", X], ("Put", X), ("take", None), ("take", (2, 0, 0)),
            ("put", (True, 0, 0)),
            ("put", list(X)), ("put", (0, 0, 0)), ("put", (1, 1001, 0)), ("led", X), ("led", None), ("led", ()), ("led", (X, Y)),
            ("led", [X, Y, Z]),
            ("led", (X, Y, list(Z))), ("led", (X, Y, (0, 0, True))), ("led", (X, Y, (0, 0, 10 ** 60))), ("led", ((1, 0), (0, 1))),
            (None, X), (X, "put"),
            ("drop", X), ("put", UNIT), ("led", (X, Y, Z, X)), ("led", ((1, 0, 0, 0), (0, 1, 0, 0), (0, 0, 1, 0), (0, 0, 0, 1))))


def shown(desk):
    """All that can be seen of a desk."""
    versions = [desk.at(version) for version in range(desk.version + 1)]
    return [desk.lot, desk.promises, desk.version, str(desk), len(desk), [(one.lot, one.promises) for one in versions]]


def desk_with(lot, *promises):
    desk = Desk(lot)
    for promise in promises:
        desk.promise(promise)
    return desk


def after(lot, deeds):
    """The lot behind deeds, by the methods of lots."""
    for word, value in deeds:
        lot = {"put": lot.with_line, "take": lot.without_line, "led": lot.led}[word](value)
    return lot


class DeskChecks(Checks):
    def refused(self, call, *values):
        """The reason of a call that is refused."""
        with self.assertRaises(Refused) as caught:
            call(*values)
        return caught.exception.reason

    def no_effect(self, desk, error, call, *values):
        """The call raises the error and leaves the desk as it was."""
        before = shown(desk)
        self.assert_raises(error, call, *values)
        self.assertEqual(shown(desk), before)

    def broken(self, desk, promise, call, *values):
        before = shown(desk)
        reason = self.refused(call, *values)
        self.assertTrue(type(reason) is tuple and len(reason) == 3)
        self.assert_same(reason[:2], ("broken", promise))
        self.assertEqual(shown(desk), before)
        return reason[2]


class DeskTest(DeskChecks, unittest.TestCase):
    def test_constants(self):
        self.assert_same([module.MAX_PROMISES, module.MAX_DEEDS], [8, 20])

    def test_new_desks(self):
        for lot in (BRAID, FANO, ONE, Lot(0, PENCIL)):
            desk = Desk(lot)
            self.assertEqual([desk.lot, desk.promises, desk.version, len(desk), list(desk)], [lot, (), 0, 0, []])
            self.assertEqual(str(desk), f"desk of {lot.many} lines over {lot.prime}, 0 promises")
        self.assertEqual(str(desk_with(BRAID, FREE, ("most", 3))), "desk of 6 lines over 0, 2 promises")
        for value in wrong_values():
            if not isinstance(value, Lot):
                self.assert_raises(InvalidLot, Desk, value)

    def test_deeds(self):
        desk = Desk(BRAID)
        self.assert_same(desk.do((("put", (1, 1, 1)),)), 1)
        self.assertEqual(desk.lot, BRAID.with_line((1, 1, 1)))
        self.assert_same(desk.do((("take", X), ("take", Y))), 2)
        self.assertEqual(desk.lot, BRAID.with_line((1, 1, 1)).without_line(X).without_line(Y))
        self.assert_same(desk.do((("led", TWICE), ("put", X))), 3)
        self.assertEqual(desk.lot, BRAID.with_line((1, 1, 1)).without_line(X).without_line(Y).led(TWICE).with_line(X))
        modulo = Desk(FANO)
        self.assert_same(modulo.do((("led", (Y, X, Z)), ("take", X))), 1)
        self.assertEqual(modulo.lot, FANO.without_line(X))

    def test_random_deeds(self):
        source = random.Random(221)
        lines = [X, Y, Z, (1, 1, 0), (1, 0, 1), (0, 1, 1), (1, 1, 1), (1, -1, 0)]
        desk, states = Desk(BRAID), [BRAID]
        told = {"done": 0, "failed": 0}
        for _ in range(150):
            deeds = tuple((source.choice(("put", "take")), source.choice(lines)) for _ in range(source.randint(1, 4)))
            try:
                lot = after(states[-1], deeds)
            except InvalidOperation:
                index, word = self.first_failure(states[-1], deeds)
                self.no_effect(desk, Refused(("deed", index, word)), desk.do, deeds)
                self.no_effect(desk, Refused(("deed", index, word)), desk.would, deeds)
                told["failed"] += 1
                continue
            if lot != states[-1]:
                states.append(lot)
            self.assert_same(desk.do(deeds), len(states) - 1)
            told["done"] += 1
            self.assertEqual(desk.lot, states[-1])
        self.assertEqual([desk.at(version).lot for version in range(len(states))], states)
        self.assertGreater(min(told.values()), 20)

    def first_failure(self, lot, deeds):
        for index, deed in enumerate(deeds):
            word, line = deed
            if word == "put" and line in lot:
                return index, "there"
            if word == "take" and line not in lot:
                return index, "missing"
            if word == "take" and lot.many == 1:
                return index, "last"
            lot = after(lot, (deed,))
        return None

    def test_a_deed_fails_with_each_word(self):
        whole = Lot(0, PENCIL)
        for lot, deed, word in ((BRAID, ("put", X), "there"), (whole, ("put", X), "there"), (BRAID, ("take", (1, 1, 0)), "missing"),
                                (ONE, ("take", Y), "missing"), (whole, ("put", Z), "many"), (ONE, ("take", X), "last"),
                                (BRAID, ("led", FLAT), "flat"),
                                (FIVE, ("led", GREAT), "great"), (Lot(2, (X,)), ("led", (X, X, Z)), "flat"),
                                (Lot(0, ((1, 999, 0),)), ("led", TWICE), "great")):
            desk = Desk(lot)
            for call in (desk.do, desk.would, lambda deeds: desk.batch().put(deeds[0])):
                self.assert_same(self.refused(call, (deed,)), ("deed", 0, word))
                self.assertEqual([desk.lot, desk.version], [lot, 0])
        # The index is that of the first deed that fails; the deeds ahead of it have no effect.
        desk = Desk(BRAID)
        deeds = (("take", X), ("put", X), ("take", X), ("take", X), ("put", Y), ("led", FLAT))
        self.no_effect(desk, Refused(("deed", 3, "missing")), desk.do, deeds)
        self.no_effect(desk, Refused(("deed", 3, "missing")), desk.would, deeds)
        self.no_effect(desk, Refused(("deed", 2, "flat")), desk.do, (("put", (1, 1, 1)), ("take", (1, 1, 1)), ("led", FLAT)))
        many = desk_with(Lot(0, PENCIL[:12]))
        self.no_effect(many, Refused(("deed", 1, "many")), many.do, (("put", PENCIL[12]), ("put", Z)))
        self.assert_same(many.do((("put", PENCIL[12]), ("take", PENCIL[0]), ("put", Z))), 1)
        few = Desk(Lot(0, (X, Y)))
        self.no_effect(few, Refused(("deed", 1, "last")), few.do, (("take", X), ("take", Y)))

    def test_no_deeds(self):
        for desk in (Desk(BRAID), desk_with(ONE, FREE), Desk(FANO)):
            for value in (*wrong_values(), (), ("put", X), [("put", (1, 1, 1))], ("put", (1, 1, 1)), (("put", (1, 1, 1)), ["put", X]),
                          *[(deed,) for deed in NO_DEEDS], *[(("led", UNIT), deed) for deed in NO_DEEDS]):
                self.no_effect(desk, InvalidOperation, desk.do, value)
                self.no_effect(desk, InvalidOperation, desk.would, value)
        modulo = Desk(FANO)
        for deed in (("put", (1, 2, 0)), ("put", (1, -1, 0)), ("led", (X, Y, (0, 0, 2))), ("led", (X, Y, (0, 0, -1)))):
            self.no_effect(modulo, InvalidOperation, modulo.do, (deed,))
        # A value that is no deed comes ahead of one that fails.
        desk = Desk(BRAID)
        self.no_effect(desk, InvalidOperation, desk.do, (("put", X), ("put", None)))

    def test_how_many_deeds(self):
        deeds = (("take", X), ("put", X)) * 10
        desk = Desk(BRAID)
        self.assert_same(desk.do(deeds), 0)
        self.assert_same(desk.do(deeds[:19]), 1)
        self.assertEqual(desk.lot, BRAID.without_line(X))
        self.no_effect(desk, InvalidOperation, desk.do, deeds[1:] + deeds[:2])
        self.no_effect(desk, InvalidOperation, desk.would, deeds[1:] + deeds[:2])

    def test_calls_that_change_nothing_make_no_version(self):
        desk = desk_with(BRAID, FREE)
        self.assert_same(desk.do((("put", (1, 2, 4)), ("take", (1, 2, 4)))), 1)
        self.assert_same(desk.do((("led", UNIT),)), 1)
        self.assert_same(desk.do((("led", ((5, 0, 0), (0, 5, 0), (0, 0, 5))),)), 1)
        # x and y change places, and the lot stays.
        self.assert_same(desk.do((("led", (Y, X, Z)),)), 1)
        self.assertEqual([desk.version, desk.lot], [1, BRAID])

    def test_promises(self):
        desk = Desk(BRAID)
        self.assertIs(desk.promise(FREE), True)
        self.assertIs(desk.promise(("most", 3)), True)
        self.assertIs(desk.promise(FREE), False)
        self.assertEqual([desk.promises, desk.version, len(desk), list(desk)], [(FREE, ("most", 3)), 2, 2, [FREE, ("most", 3)]])
        for promise in (("degrees", 2, 2), ("degrees", 1, 4), ("most", 2), ("modular", (0, 1, 1)), ("modular", (1, 2, 3)),
                        ("pressed", X, 1, 4)):
            paper = self.broken(desk, promise, desk.promise, promise)
            self.assertIs(is_paper_against(BRAID, promise, paper), True)
        self.assertIs(is_paper_against(FIVE, FREE, self.broken(Desk(FIVE), FREE, Desk(FIVE).promise, FREE)), True)
        self.assert_same(desk.drop(FREE), 3)
        self.assertEqual(desk.promises, (("most", 3),))
        self.no_effect(desk, UnknownName(FREE), desk.drop, FREE)
        self.no_effect(desk, UnknownName(("most", 2)), desk.drop, ("most", 2))
        self.assertIs(desk.promise(FREE), True)
        self.assertEqual([desk.promises, desk.version], [(("most", 3), FREE), 4])

    def test_eight_promises(self):
        desk = desk_with(ONE, *MOSTS)
        self.assertEqual([len(desk), desk.version], [8, 8])
        self.no_effect(desk, TooMany(8), desk.promise, FREE)
        for promise in MOSTS:
            self.assertIs(desk.promise(promise), False)
        # A promise that does not hold is refused ahead of that.
        self.broken(desk, ("modular", X), desk.promise, ("modular", X))
        self.broken(desk, ("degrees", 0, 1), desk.promise, ("degrees", 0, 1))
        self.assertEqual(desk.version, 8)
        self.assert_same(desk.drop(MOSTS[3]), 9)
        self.assertIs(desk.promise(FREE), True)
        self.assertEqual(desk.promises, MOSTS[:3] + MOSTS[4:] + (FREE,))

    def test_no_promises(self):
        for desk in (Desk(BRAID), desk_with(ONE, *MOSTS), Desk(FANO)):
            for value in (*NO_PROMISES, *wrong_values()):
                self.no_effect(desk, InvalidPromise, desk.promise, value)
                self.no_effect(desk, InvalidPromise, desk.drop, value)
        self.no_effect(desk, InvalidPromise, Desk(FANO).promise, ("modular", (1, 2, 0)))

    def test_broken_promises(self):
        desk = desk_with(BRAID, ("most", 3), FREE, ("modular", Z), ("degrees", 2, 3), ("pressed", X, 2, 3))
        line = (1, 1, 1)
        self.assertEqual(desk.would((("put", line),)), (FREE, ("modular", Z), ("degrees", 2, 3), ("pressed", X, 2, 3)))
        paper = self.broken(desk, FREE, desk.do, (("put", line),))
        self.assertIs(is_paper_against(BRAID.with_line(line), FREE, paper), True)
        # The promises are asked in their order, for the lot behind all deeds alone.
        for deeds, promise in (((("take", (1, -1, 0)),), ("modular", Z)), ((("put", (1, 1, 0)), ("put", (1, 2, 0))), ("most", 3)),
                               ((("put", (1, -2, 0)),), ("most", 3)), ((("led", TWICE),), None), ((("put", line), ("take", line)), None)):
            expected = tuple(one for one in desk.promises if not does_hold(after(BRAID, deeds), one))
            self.assertEqual(desk.would(deeds), expected)
            if promise is None:
                self.assertEqual(expected, ())
            else:
                self.assertEqual(expected[0], promise)
                paper = self.broken(desk, promise, desk.do, deeds)
                self.assertIs(is_paper_against(after(BRAID, deeds), promise, paper), True)
        self.assert_same(desk.do((("put", line), ("take", line), ("led", TWICE))), 6)
        self.assertEqual(desk.lot, BRAID.led(TWICE))

    def test_promises_are_broken_between_deeds(self):
        desk = desk_with(PLUS, FREE, ("degrees", 3, 3))
        self.assertIs(does_hold(PLUS.without_line(X), FREE), False)
        self.assert_same(desk.do((("take", X), ("put", X))), 2)
        swap = (("take", (1, 1, 1)), ("led", (Y, X, Z)), ("put", (1, 1, 1)))
        self.assert_same(desk.do(swap), 2)
        self.assertEqual(desk.would((("take", X),)), (FREE, ("degrees", 3, 3)))
        self.assertEqual([desk.lot, desk.version], [PLUS, 2])

    def test_undo(self):
        desk = desk_with(BRAID, FREE)
        desk.do((("take", X),))
        desk.do((("take", Y),))
        desk.promise(("degrees", 1, 2))
        desk.drop(FREE)
        self.assert_same(desk.version, 5)
        self.assert_same(desk.undo(), 4)
        self.assertEqual([desk.promises, desk.lot.many], [(FREE, ("degrees", 1, 2)), 4])
        self.assert_same(desk.undo(2), 2)
        self.assertEqual([desk.promises, desk.lot], [(FREE,), BRAID.without_line(X)])
        # Back for good: a further change begins from here.
        self.assert_same(desk.do((("put", X),)), 3)
        self.assertEqual([desk.at(3).lot, desk.at(2).lot, desk.at(1).lot, desk.at(0).promises], [BRAID, BRAID.without_line(X), BRAID, ()])
        for value in (*wrong_values(), 0, -1, 10 ** 60, True, "1", 1.5):
            if not isinstance(value, int) or isinstance(value, bool) or not 0 < value < 10 ** 60:
                self.no_effect(desk, InvalidNumber(value), desk.undo, value)
        for value in (4, 5, 10 ** 60 - 1):
            self.no_effect(desk, NothingToUndo(value), desk.undo, value)
        self.assert_same(desk.undo(count=3), 0)
        self.assertEqual([desk.lot, desk.promises, desk.version], [BRAID, (), 0])
        self.no_effect(desk, NothingToUndo(1), desk.undo)
        self.no_effect(desk, InvalidNumber(0), desk.undo, 0)

    def test_at(self):
        desk = desk_with(BRAID, FREE, ("most", 3))
        desk.do((("take", X),))
        for value in (*wrong_values(), 4, -1, 10 ** 60, True, False):
            if value not in (0, 1, 2, 3) or isinstance(value, bool):
                self.no_effect(desk, InvalidNumber(value), desk.at, value)
        found = [desk.at(version) for version in range(4)]
        self.assertEqual([one.version for one in found], [0] * 4)
        self.assertEqual([one.lot for one in found], [BRAID] * 3 + [BRAID.without_line(X)])
        self.assertEqual([one.promises for one in found], [(), (FREE,), (FREE, ("most", 3)), (FREE, ("most", 3))])
        self.assertTrue(found[3] == desk and found[2] != desk)
        # Both desks share nothing.
        before = shown(desk)
        for one in found:
            one.batch().put(("put", (1, 1, 1)))
        self.assertEqual(shown(desk), before)
        one = desk.at(3)
        one.do((("put", X),))
        one.drop(FREE)
        self.assertEqual(shown(desk), before)
        batch = desk.batch()
        self.assertEqual([one.undo(), desk.at(3).do((("put", X),))], [1, 1])
        batch.drop()
        desk.undo(3)
        self.assertEqual([one.version, one.lot, one.promises], [1, BRAID, (FREE, ("most", 3))])

    def test_in_and_equality(self):
        desk = desk_with(TRI, FREE, ("most", 2), ("modular", Z))
        for promise in (FREE, ("most", 2), ("modular", Z)):
            self.assertIn(promise, desk)
        for value in (*wrong_values(), *NO_PROMISES, ("most", 3), ("modular", X), ("most", True), ("modular", (0, 0, True)), ["free"]):
            self.assertNotIn(value, desk)
        one = desk_with(ONE, ("most", 1))
        self.assertEqual([("most", 1) in one, ("most", True) in one], [True, False])
        other = desk_with(TRI, FREE, ("most", 2), FREE, ("modular", Z))
        other.do((("led", ((1, 1, 0), Y, Z)),))
        self.assertTrue(desk != other and not desk == other)
        other.undo()
        other.drop(("modular", Z))
        other.promise(("modular", Z))
        self.assertTrue(desk == other and not desk != other)
        self.assertNotEqual(desk.version, other.version)
        self.assertNotEqual(desk_with(TRI, FREE, ("most", 2)), desk_with(TRI, ("most", 2), FREE))
        self.assertNotEqual(Desk(TRI), Desk(Lot(5, TRI.lines)))
        for value in (*wrong_values(), TRI, None, desk.promises):
            self.assertIs(desk == value, False)
            self.assertIs(desk != value, True)

    def test_lots_stay(self):
        lot = Lot(0, BRAID.lines)
        desk = Desk(lot)
        desk.do((("take", X),))
        batch = desk.batch()
        batch.put(("put", X))
        self.assertEqual(lot, BRAID)
        self.assertEqual(desk.lot, BRAID.without_line(X))


class BatchTest(DeskChecks, unittest.TestCase):
    def test_batch(self):
        desk = desk_with(BRAID, FREE)
        batch = desk.batch()
        self.assertIs(type(batch), Batch)
        self.assertEqual([batch.is_open, batch.lot], [True, BRAID])
        self.assertIs(batch.is_open, True)
        self.assert_same([batch.put(("take", X)), batch.put(("take", Y)), batch.put(("put", X)), batch.put(("put", Y)),
                          batch.put(("take", Z))],
                         [1, 2, 3, 4, 5])
        self.assertEqual([batch.lot, desk.lot, desk.version], [BRAID.without_line(Z), BRAID, 1])
        self.assert_same(batch.end(), 2)
        self.assertEqual([batch.is_open, batch.lot, desk.lot, desk.version], [False, BRAID.without_line(Z), BRAID.without_line(Z), 2])
        self.assertEqual(desk.at(1).lot, BRAID)

    def test_many_deeds(self):
        desk = Desk(BRAID)
        batch = desk.batch()
        for number in range(1, 51):
            self.assert_same(batch.put(("take" if number % 2 else "put", X)), number)
        self.assert_same(batch.end(), 0)
        batch = desk.batch()
        for number in range(1, 26):
            batch.put(("take" if number % 2 else "put", X))
        self.assert_same([batch.end(), desk.lot.many], [1, 5])

    def test_without_deeds(self):
        desk = desk_with(BRAID, FREE)
        self.assert_same([desk.batch().end(), desk.version, desk.batch().drop(), desk.version], [1, 1, None, 1])

    def test_deeds_that_fail(self):
        desk = Desk(BRAID)
        batch = desk.batch()
        batch.put(("take", X))
        for deed, word in ((("take", X), "missing"), (("put", Y), "there"), (("led", FLAT), "flat")):
            self.assert_raises(Refused(("deed", 1, word)), batch.put, deed)
            self.assertEqual([batch.lot, batch.is_open, desk.lot], [BRAID.without_line(X), True, BRAID])
        for value in (*NO_DEEDS, *wrong_values(), (("put", X),)):
            self.assert_raises(InvalidOperation, batch.put, value)
            self.assertEqual([batch.lot, batch.is_open], [BRAID.without_line(X), True])
        self.assert_same(batch.put(("put", (1, 1, 1))), 2)
        self.assert_raises(Refused(("deed", 2, "there")), batch.put, ("put", Y))
        self.assert_same(batch.end(), 1)

    def test_an_end_that_is_refused(self):
        desk = desk_with(BRAID, ("degrees", 2, 3), FREE)
        batch = desk.batch()
        batch.put(("put", (1, 1, 1)))
        before = [desk.lot, desk.promises, desk.version]
        reason = self.refused(batch.end)
        self.assert_same(reason[:2], ("broken", ("degrees", 2, 3)))
        self.assertIs(is_paper_against(batch.lot, reason[1], reason[2]), True)
        self.assertEqual([batch.is_open, batch.lot, desk.lot, desk.promises, desk.version], [False, BRAID.with_line((1, 1, 1)), *before])
        self.assert_raises(InvalidOperation, batch.end)
        self.assertIs(desk.batch().is_open, True)

    def test_promises_are_broken_between(self):
        desk = desk_with(PLUS, FREE)
        batch = desk.batch()
        batch.put(("take", X))
        batch.put(("take", (1, 1, 0)))
        batch.put(("put", X))
        self.assert_same(batch.end(), 2)
        self.assertEqual(desk.lot, PLUS.without_line((1, 1, 0)))

    def test_calls_while_a_batch_is_open(self):
        desk = desk_with(BRAID, FREE)
        batch = desk.batch()
        batch.put(("take", X))
        for call, values in ((desk.do, ((("put", (1, 1, 1)),),)), (desk.do, (None,)), (desk.promise, (FREE,)), (desk.promise, (None,)),
                             (desk.promise, (("most", 1),)),
                             (desk.drop, (FREE,)), (desk.drop, (None,)), (desk.drop, (("most", 5),)), (desk.undo, ()),
                             (desk.undo, (0,)), (desk.undo, (99,)),
                             (desk.batch, ())):
            self.no_effect(desk, InvalidOperation, call, *values)
            self.assertEqual([batch.is_open, batch.lot], [True, BRAID.without_line(X)])
        # All else is as ever.
        self.assertEqual(desk.would((("put", (1, 1, 1)),)), (FREE,))
        self.assert_raises(InvalidOperation, desk.would, None)
        self.assertEqual([desk.lot, desk.at(0).promises, FREE in desk, list(desk), desk == desk.at(1)], [BRAID, (), True, [FREE], True])
        batch.drop()
        self.assert_same(desk.undo(), 0)

    def test_closed_batches(self):
        desk = Desk(BRAID)
        ended, dropped = desk.batch(), None
        ended.put(("take", X))
        ended.end()
        dropped = desk.batch()
        dropped.put(("take", Y))
        self.assertIsNone(dropped.drop())
        for batch, lot in ((ended, BRAID.without_line(X)), (dropped, BRAID.without_line(X).without_line(Y))):
            for call in (batch.end, batch.drop, lambda: batch.put(("put", X)), lambda: batch.put(None)):
                self.no_effect(desk, InvalidOperation, call)
                self.assertEqual([batch.is_open, batch.lot], [False, lot])
            with self.assertRaises(InvalidOperation):
                with batch:
                    self.fail("the block of a closed batch")
        other = desk.batch()
        self.assert_raises(InvalidOperation, ended.end)
        self.assertEqual([other.is_open, desk.version], [True, 1])

    def test_with(self):
        desk = desk_with(BRAID, FREE)
        with desk.batch() as batch:
            self.assertIs(batch.is_open, True)
            batch.put(("take", X))
            self.assert_raises(InvalidOperation, desk.undo)
        self.assertEqual([batch.is_open, desk.lot, desk.version], [False, BRAID, 1])
        with desk.batch() as batch:
            batch.put(("take", X))
            self.assert_same(batch.end(), 2)
            self.assertEqual(desk.lot, BRAID.without_line(X))
            desk.do((("put", X),))
        self.assertEqual([batch.is_open, desk.lot, desk.version], [False, BRAID, 3])
        with desk.batch() as batch:
            batch.drop()
        self.assertEqual([batch.is_open, desk.version], [False, 3])
        opened = desk.batch()
        with opened as batch:
            self.assertTrue(batch is opened)
        self.assertIs(opened.is_open, False)

    def test_with_and_errors(self):
        desk = desk_with(BRAID, FREE)
        for error in (KeyError("told"), Refused(("told",))):
            with self.assertRaises(type(error)) as caught:
                with desk.batch() as batch:
                    batch.put(("take", X))
                    raise error
            self.assertTrue(caught.exception is error)
            self.assertEqual([batch.is_open, desk.lot, desk.version], [False, BRAID, 1])
        with self.assertRaises(Refused):
            with desk.batch() as batch:
                batch.put(("put", (1, 1, 1)))
                batch.end()
        self.assertEqual([batch.is_open, desk.lot, desk.version], [False, BRAID, 1])
        with self.assertRaises(Refused):
            with desk.batch() as batch:
                batch.put(("put", X))
        self.assertEqual([batch.is_open, desk.version], [False, 1])
        # A batch within the block of a closed one stays open.
        with desk.batch() as batch:
            batch.drop()
            other = desk.batch()
        self.assertEqual([batch.is_open, other.is_open], [False, True])

    def test_what_is_not_iterated(self):
        batch = Desk(BRAID).batch()
        self.assertEqual(outcome(lambda: list(batch))[0], "TypeError")

    def test_two_desks(self):
        one, other = Desk(BRAID), Desk(BRAID)
        batch = one.batch()
        batch.put(("take", X))
        self.assert_same(other.do((("take", Y),)), 1)
        self.assert_same(batch.end(), 1)
        self.assertEqual([one.lot, other.lot], [BRAID.without_line(X), BRAID.without_line(Y)])


if __name__ == "__main__":
    unittest.main()
