"""The conventions [0.1] to [0.7], over all calls at once."""

import copy
import inspect
import itertools
import unittest

from support import Checks, outcome, wrong_values
from tangentrows.base import numbers, tables
from tangentrows.chain import chains
from tangentrows.count import counted
from tangentrows.desk import desks, promises
from tangentrows.desk.desks import Batch, Desk
from tangentrows.form import forms, products
from tangentrows.form.forms import Form
from tangentrows.free import deeds, free
from tangentrows.mark import euclid, marks, pairs, places
from tangentrows.mark.marks import Marks
from tangentrows.plane import lines, lots, primes
from tangentrows.plane.lots import Lot
from tangentrows.press import lines as press_lines
from tangentrows.press import pairs as press_pairs
from tangentrows.row import generators, rows, slopes
from tangentrows.text import formats, shell
from tangentrows.text.shell import Shell
from tangentrows.web import webs
from tangentrows.web.webs import Web

X, Y, Z = (1, 0, 0), (0, 1, 0), (0, 0, 1)
XF, YF = Form(0, 2, {(1, 0): 1}), Form(0, 2, {(0, 1): 1})
LOT, MODULO = Lot(0, (X, Y, (1, 1, 0))), Lot(5, (X, Y, Z))
TABLE = ((1, 2), (3, 4))
NUMBER, OPERATION, PAIR = "InvalidNumber", "InvalidOperation", "InvalidPair"
NO_MARKS, NO_LOT, NO_LINE, NO_ROW = "InvalidMarks", "InvalidLot", "InvalidLine", "InvalidRow"
MARKS, ENDLESS = Marks(0, {(1, 0): 2, (0, 1): 1}), Marks(0, {(1, 0): 2, (1, 1): 1})
TWO, SPOTS = pairs.two_pairs(MARKS), ((1, 0), (0, 1), (1, 1), (1, 2))
ROW, ZEROS, FREE = rows.plain(0), (Form(0, 3),) * 3, free.free_rows(LOT)
GENERIC = Lot(0, (X, Y, Z))
PRESSED = press_pairs.two_pressed(GENERIC, (1, 5, 7))[0]
WEB, COUNTS, PROMISE = Web(((1, 2), (3, 4))), {X: 2, Y: 1, (1, 1, 0): 1}, ("most", 3)
NO_WEB, NO_PROMISE, NO_POINT, NO_FORM = "InvalidWeb", "InvalidPromise", "InvalidPoint", "InvalidForm"
DEEDS = (("take", X),)


def on_desk(name):
    """A method of a new desk with a promise, as a function."""
    def call(*values):
        desk = Desk(LOT)
        desk.promise(PROMISE)
        return getattr(desk, name)(*values)
    return call


def on_batch(value):
    return Desk(LOT).batch().put(value)


def on_shell(name):
    """A method of a new shell, as a function."""
    return lambda *values: getattr(Shell(LOT), name)(*values)



# Each call with arguments that are right, and for each parameter the errors that it can raise.
CALLS = (
    (numbers.is_integer, (1,), ((),)), (numbers.is_prime, (1,), ((),)), (numbers.is_number, (5, 1), ((NUMBER,), ())),
    (numbers.inverse, (5, 2), ((NUMBER,), (NUMBER,))), (numbers.common_divisor, ((4, 6),), ((OPERATION,),)),
    (numbers.normal, (5, (2, 4)), ((NUMBER,), (OPERATION,))),
    (tables.rank, (5, TABLE), ((NUMBER,), ("InvalidTable",))), (tables.echelon, (5, TABLE), ((NUMBER,), ("InvalidTable",))),
    (tables.is_mix, (5, TABLE, (1, 0)), ((NUMBER,), ("InvalidTable",), ())),
    (tables.kernel, (5, TABLE), ((NUMBER,), ("InvalidTable",))),
    (tables.sent, (5, TABLE, (1, 2)), ((NUMBER,), ("InvalidTable", OPERATION), (OPERATION,))),
    (tables.determinant, (5, TABLE), ((NUMBER,), ("InvalidTable",))),
    (tables.undone, (5, TABLE), ((NUMBER,), ("InvalidTable", "Refused"))),
    (forms.Form, (5, 2, {(1, 0): 2}), ((NUMBER,), (NUMBER,), ("InvalidForm",))),
    (Form.read, (5, 2, "2x"), ((NUMBER,), (NUMBER,), ("ParseError",))),
    (XF.power, (2,), ((NUMBER,),)), (XF.at, ((1, 2),), ((OPERATION,),)), (XF.slope, ("x",), (("UnknownName",),)),
    (XF.led, ((XF, YF),), ((OPERATION,),)), (XF.over, (XF,), (("InvalidForm", OPERATION, "Refused"),)),
    (XF.order_of, (XF,), (("InvalidForm", OPERATION),)), (XF.__getitem__, ((1, 0),), ((OPERATION,),)),
    (XF.__eq__, (XF,), ((),)), (XF.__ne__, (XF,), ((),)),
    (lambda letters, degree: list(forms.monomials(letters, degree)), (2, 3), ((NUMBER,), (NUMBER,))),
    (products.linear, (5, (1, 2)), ((NUMBER,), (OPERATION,))),
    (products.product_of, (0, 2, (XF, YF)), ((NUMBER,), (NUMBER,), ("InvalidForm",))),
    (products.determinant_of, (((XF, YF), (YF, XF)),), (("InvalidForm", OPERATION),)),
    (products.is_multiple, (XF, YF), (("InvalidForm",), ("InvalidForm",))),
    (lines.is_line, (5, X), ((NUMBER,), ())), (lines.is_point, (5, X), ((NUMBER,), ())),
    (lines.line_of, (5, X), ((NUMBER,), ("InvalidLine",))),
    (lines.is_on, (5, X, Y), ((NUMBER,), ("InvalidPoint",), ("InvalidLine",))),
    (lines.meet, (5, X, Y), ((NUMBER,), ("InvalidLine",), ("InvalidLine", "Refused"))),
    (lines.join, (5, X, Y), ((NUMBER,), ("InvalidPoint",), ("InvalidPoint", "Refused"))),
    (lambda prime: list(lines.each_line(prime)), (5,), ((NUMBER,),)),
    (lots.Lot, (5, (X, Y)), ((NUMBER,), ("InvalidLot",))),
    (LOT.lines_at, (X,), (("InvalidPoint",),)), (LOT.number_at, (X,), (("InvalidPoint",),)),
    (LOT.points_on, (X,), (("InvalidLine",),)), (LOT.with_line, (Z,), (("InvalidLine", OPERATION),)),
    (LOT.without_line, (X,), (("InvalidLine", OPERATION),)), (LOT.part, ((Y, X),), ((OPERATION,),)),
    (LOT.led, ((X, Y, Z),), (("InvalidTable", "Refused", "TooMany"),)), (LOT.__contains__, (X,), ((),)),
    (LOT.__eq__, (LOT,), ((),)), (primes.reduced, (LOT, 5), (("InvalidLot", OPERATION), (NUMBER,))),
    (primes.keeps_points, (LOT, 5), (("InvalidLot", OPERATION), (NUMBER,))),
    (primes.bad_primes, (LOT,), (("InvalidLot", OPERATION),)), (primes.count_off, (MODULO,), (("InvalidLot", OPERATION),)),
    (lambda lot: list(primes.each_off(lot)), (MODULO,), (("InvalidLot", OPERATION),)),
    (primes.all_lines, (3,), ((NUMBER,),)),
    (marks.Marks, (0, {(1, 0): 2}), ((NUMBER,), ("InvalidMarks",))), (MARKS.count_at, ((1, 1),), ((OPERATION,),)),
    (MARKS.raised, ((1, 1),), ((OPERATION,),)), (MARKS.lowered, ((1, 0),), ((OPERATION,),)),
    (MARKS.led, (TABLE,), (("InvalidTable", "Refused", "TooMany"),)), (MARKS.__contains__, ((1, 0),), ((),)),
    (MARKS.__eq__, (MARKS,), ((),)),
    (pairs.is_pair, (MARKS, TWO[0]), ((NO_MARKS,), ())), (pairs.count_pairs, (MARKS, 3), ((NO_MARKS,), (NUMBER,))),
    (pairs.pairs_of, (MARKS, 3), ((NO_MARKS,), (NUMBER,))), (pairs.degrees, (MARKS,), ((NO_MARKS,),)),
    (pairs.two_pairs, (MARKS,), ((NO_MARKS,),)), (pairs.are_two, (MARKS, TWO), ((NO_MARKS,), ())),
    (pairs.told_by, (MARKS, TWO, TWO[1]), ((NO_MARKS, PAIR), (PAIR,), (PAIR,))),
    (euclid.contact, (ENDLESS,), ((NO_MARKS, "Refused"),)), (euclid.divided, (ENDLESS,), ((NO_MARKS, "Refused"),)),
    (euclid.turn_of, (ENDLESS,), ((NO_MARKS, "Refused"),)), (euclid.degrees_by_division, (ENDLESS,), ((NO_MARKS, "Refused"),)),
    (euclid.pairs_by_division, (ENDLESS,), ((NO_MARKS, "Refused"),)),
    (euclid.rest_at, (MARKS, TWO[0], (1, 1)), ((NO_MARKS, PAIR), (PAIR,), (OPERATION,))),
    (euclid.grown, (MARKS, TWO, (1, 1)), ((NO_MARKS, PAIR), (PAIR,), (OPERATION,))),
    (euclid.pairs_by_growth, (MARKS,), ((NO_MARKS,),)),
    (places.cross_ratio, (5, SPOTS), ((NUMBER, OPERATION), (OPERATION,))),
    (places.is_harmonic, (5, SPOTS), ((NUMBER, OPERATION), (OPERATION,))),
    (places.gap_of_three, (5, (1, 2, 2)), ((NUMBER,), (OPERATION,))), (places.degrees_by_counts, (MARKS,), ((NO_MARKS,),)),
    (places.is_special, (MARKS,), ((NO_MARKS,),)),
    (places.special_places, (Marks(5, {(1, 0): 2}), (1, 0)), ((NO_MARKS, OPERATION), (OPERATION,))),
    (places.widened, (Marks(5, {(1, 0): 2}),), ((NO_MARKS, OPERATION),)),
    (places.widened_pair, (5, (Form(5, 2), Form(5, 2))), ((NUMBER, PAIR), (PAIR,))),
    (rows.plain, (5,), ((NUMBER,),)), (rows.is_tangent, (LOT, ROW), ((NO_LOT,), ())), (rows.count_rows, (LOT, 2), ((NO_LOT,), (NUMBER,))),
    (rows.count_killing, (LOT, 2), ((NO_LOT,), (NUMBER,))), (rows.rows_of, (LOT, 2), ((NO_LOT,), (NUMBER,))),
    (rows.killing_rows, (LOT, X, 2), ((NO_LOT, NO_LINE), (NO_LINE,), (NUMBER,))),
    (rows.parted, (LOT, X, ROW), ((NO_LOT, NO_LINE, NO_ROW), (NO_LINE,), (NO_ROW,))),
    (rows.led_row, (0, ROW, (X, Y, Z)), ((NUMBER, NO_ROW), (NO_ROW,), ("InvalidTable", "Refused"))),
    (rows.least_degree, (LOT,), ((NO_LOT,),)), (rows.far_count, (LOT, 2), ((NO_LOT,), (NUMBER,))),
    (lambda lot: list(rows.each_count(lot)), (LOT,), ((NO_LOT,),)),
    (slopes.slopes, (LOT,), ((NO_LOT,),)), (slopes.is_relation, (LOT, ROW), ((NO_LOT,), ())),
    (slopes.factor_of, (LOT, ROW), ((NO_LOT, NO_ROW), (NO_ROW,))), (slopes.relation_of, (LOT, ROW), ((NO_LOT, NO_ROW), (NO_ROW,))),
    (slopes.row_with, (LOT, Form(0, 3), ZEROS), ((NO_LOT, "InvalidForm"), ("InvalidForm",), (NO_ROW,))),
    (slopes.count_relations, (LOT, 2), ((NO_LOT,), (NUMBER,))), (slopes.count_left, (LOT, 2), ((NO_LOT, OPERATION), (NUMBER,))),
    (press_lines.left_out, (5, X), ((NUMBER,), (NO_LINE,))),
    (press_lines.spot_of, (0, X, Z), ((NUMBER,), (NO_LINE, OPERATION), ("InvalidPoint", OPERATION))),
    (press_lines.marks_on, (LOT, X), ((NO_LOT, OPERATION), (NO_LINE, OPERATION))),
    (press_lines.triples_on, (LOT, Z), ((NO_LOT, OPERATION), (NO_LINE, OPERATION))),
    (press_pairs.is_pressed, (LOT, X, TWO[0]), ((NO_LOT,), (NO_LINE,), ())),
    (press_pairs.count_pressed, (LOT, X, 2), ((NO_LOT,), (NO_LINE,), (NUMBER,))),
    (press_pairs.degrees_on, (LOT, X), ((NO_LOT,), (NO_LINE,))), (press_pairs.gap, (LOT, X), ((NO_LOT,), (NO_LINE,))),
    (press_pairs.two_pressed, (LOT, X), ((NO_LOT,), (NO_LINE,))),
    (press_pairs.are_two_pressed, (LOT, X, TWO), ((NO_LOT,), (NO_LINE,), ())),
    (press_pairs.bar_on, (LOT, X), ((NO_LOT,), (NO_LINE,))), (press_pairs.is_bar, (LOT, X, TWO), ((NO_LOT,), (NO_LINE,), ())),
    (press_pairs.press, (LOT, X, ROW), ((NO_LOT, NO_ROW), (NO_LINE,), (NO_ROW,))),
    (press_pairs.curve_of, (GENERIC, (1, 5, 7), PRESSED), ((NO_LOT, NO_LINE, PAIR), (NO_LINE, PAIR), (PAIR,))),
    (press_pairs.is_curve, (GENERIC, (1, 5, 7), Form(0, 3)), ((NO_LOT, OPERATION, NO_LINE), (NO_LINE, OPERATION), ())),
    (free.is_free, (LOT,), ((NO_LOT,),)), (free.degrees_of, (LOT,), ((NO_LOT,),)), (free.free_rows, (LOT,), ((NO_LOT,),)),
    (free.are_free_rows, (LOT, FREE), ((NO_LOT,), ())), (free.number_of_rows, (LOT, FREE), ((NO_LOT, OPERATION), (OPERATION,))),
    (free.told_by_rows, (LOT, FREE, ROW), ((NO_LOT, OPERATION), (OPERATION,), (NO_ROW, "Refused"))),
    (free.row_made, (LOT, FREE, ZEROS), ((NO_LOT, OPERATION), (OPERATION,), (OPERATION,))),
    (free.reduced_rows, (LOT, FREE, 5), ((NO_LOT, OPERATION), (OPERATION,), (NUMBER,))),
    (deeds.whole_degrees, (LOT,), ((NO_LOT,),)), (deeds.point_counts, (LOT,), ((NO_LOT,),)), (deeds.points_paper, (LOT,), ((NO_LOT,),)),
    (deeds.is_points_paper, (LOT, ("bundle",)), ((NO_LOT,), ())), (deeds.free_by_points, (LOT,), ((NO_LOT,),)),
    (deeds.degrees_without, (LOT, X), ((NO_LOT, OPERATION), (NO_LINE, OPERATION))),
    (deeds.degrees_with, (LOT, Z), ((NO_LOT, OPERATION), (NO_LINE, OPERATION))), (deeds.free_lines, (LOT,), ((NO_LOT,),)),
    (generators.generator_degrees, (LOT,), ((NO_LOT,),)), (generators.relation_degrees, (LOT,), ((NO_LOT,),)),
    (generators.generators, (LOT,), ((NO_LOT,),)), (generators.are_generators, (LOT, FREE), ((NO_LOT,), ())),
    (generators.told_by_generators, (LOT, FREE, ROW), ((NO_LOT, NO_ROW), (NO_ROW,), (NO_ROW,))),
    (generators.is_told_by_generators, (LOT, FREE, ROW, None), ((NO_LOT, NO_ROW), (NO_ROW,), (NO_ROW,), ())),
    (generators.degrees_left, (LOT, X), ((NO_LOT, NO_LINE, OPERATION), (NO_LINE,))),
    (chains.modular_points, (LOT,), ((NO_LOT,),)), (chains.is_modular, (LOT, Z), ((NO_LOT,), ())),
    (chains.missing_join, (LOT, Z), ((NO_LOT, OPERATION), (NO_POINT, OPERATION))),
    (chains.is_missing_join, (LOT, Z, (Y, X)), ((NO_LOT, OPERATION), (NO_POINT, OPERATION), ())),
    (chains.degrees_by_point, (LOT, Z), ((NO_LOT, OPERATION), (NO_POINT, OPERATION))),
    (chains.history_by_point, (LOT, Z), ((NO_LOT, OPERATION), (NO_POINT, OPERATION))),
    (chains.history, (LOT,), ((NO_LOT,),)), (chains.is_history, (LOT, LOT.lines), ((NO_LOT,), ())),
    (lambda lot, many: list(chains.each_free_part(lot, many)), (LOT, 2), ((NO_LOT, NUMBER), (NUMBER,))),
    (webs.Web, (((1, 2),),), ((NO_WEB,),)), (webs.Web.full, ((1, 3, 4),), ((NO_WEB,),)), (WEB.lot_over, (5,), ((NUMBER,),)),
    (WEB.with_tie, ((1, 3),), ((OPERATION,),)), (WEB.without_tie, ((1, 2),), ((OPERATION,),)),
         (WEB.renamed, ((2, 1, 4, 3),), ((OPERATION,),)),
    (WEB.__eq__, (WEB,), ((),)), (WEB.__contains__, ((1, 2),), ((),)), (webs.open_ring, (WEB,), ((NO_WEB,),)),
    (webs.order_of_points, (WEB,), ((NO_WEB,),)), (webs.is_order_of_points, (WEB, (1, 2, 3, 4)), ((NO_WEB,), ())),
    (webs.web_degrees, (WEB,), ((NO_WEB,),)),
    (webs.signed_lot, (5, ((1, 2),), (), (1,)), ((NUMBER, OPERATION), (NO_WEB,), (NO_WEB,), (NO_WEB,))),
    (counted.is_counted_row, (LOT, COUNTS, ROW), ((NO_LOT, OPERATION), (OPERATION,), ())),
    (counted.count_counted, (LOT, COUNTS, 2), ((NO_LOT, OPERATION), (OPERATION,), (NUMBER,))),
    (counted.counted_rows, (LOT, COUNTS, 2), ((NO_LOT, OPERATION), (OPERATION,), (NUMBER,))),
    (counted.are_counted_free, (LOT, COUNTS, None), ((NO_LOT, OPERATION), (OPERATION,), ())),
    (counted.counted_paper, (LOT, COUNTS), ((NO_LOT, OPERATION), (OPERATION,))),
    (counted.local_marks, (LOT, COUNTS, Z), ((NO_LOT, OPERATION), (OPERATION,), (NO_POINT,))),
    (counted.local_degrees, (LOT, COUNTS, Z), ((NO_LOT, OPERATION), (OPERATION,), (NO_POINT,))),
    (counted.sum_of_products, (LOT, COUNTS), ((NO_LOT, OPERATION), (OPERATION,))),
    (counted.lowered_counts, (LOT, COUNTS, X), ((NO_LOT, OPERATION), (OPERATION,), (NO_LINE, OPERATION))),
    (counted.euler_marks, (LOT, COUNTS, X), ((NO_LOT, OPERATION), (OPERATION,), (NO_LINE, OPERATION))),
    (promises.is_promise, (5, PROMISE), ((NUMBER,), ())), (promises.does_hold, (LOT, PROMISE), ((NO_LOT, NO_PROMISE), (NO_PROMISE,))),
    (promises.paper_against, (LOT, PROMISE), ((NO_LOT, NO_PROMISE), (NO_PROMISE,))),
    (promises.is_paper_against, (LOT, PROMISE, None), ((NO_LOT, NO_PROMISE), (NO_PROMISE,), ())),
    (desks.Desk, (LOT,), ((NO_LOT,),)), (on_desk("do"), (DEEDS,), ((OPERATION,),)), (on_desk("would"), (DEEDS,), ((OPERATION,),)),
    (on_desk("promise"), (("free",),), ((NO_PROMISE,),)), (on_desk("drop"), (PROMISE,), ((NO_PROMISE,),)),
    (on_desk("undo"), (1,), ((NUMBER, "NothingToUndo"),)), (on_desk("at"), (1,), ((NUMBER,),)),
         (on_desk("__contains__"), (PROMISE,), ((),)),
    (on_desk("__eq__"), (None,), ((),)), (on_batch, (("take", X),), ((OPERATION,),)),
    (formats.write_lot, (LOT,), ((NO_LOT,),)), (formats.read_lot, ("5: 1 0 0",), (("ParseError", NO_LOT),)),
         (formats.write_marks, (MARKS,), ((NO_MARKS,),)),
    (formats.read_marks, ("5: 1 0*1",), (("ParseError", NO_MARKS),)), (formats.write_forms, ((XF, YF),), ((NO_FORM,),)),
    (formats.read_forms, (5, 2, "x"), ((NUMBER,), (NUMBER,), ("ParseError",))),
    (shell.Shell, (LOT,), ((NO_LOT,),)), (on_shell("say"), ("show",), ((OPERATION,),)),
         (on_shell("run"), (("show", "rest"),), ((OPERATION,),)),
)


class ConventionsTest(Checks, unittest.TestCase):
    def test_right_arguments(self):
        for call, arguments, _ in CALLS:
            self.assertEqual(outcome(call, *arguments)[0], "returned", (call, arguments))

    def test_only_the_told_errors(self):
        for call, arguments, told in CALLS:
            for at in range(len(arguments)):
                for value in wrong_values():
                    changed = (*arguments[:at], value, *arguments[at + 1:])
                    name = outcome(call, *changed)[0]
                    self.assertIn(name, ("returned", *told[at]), (call, changed))

    def test_the_first_error_is_raised(self):
        for call, arguments, told in CALLS:
            for at, later in itertools.combinations(range(len(arguments)), 2):
                for value in wrong_values():
                    alone = (*arguments[:at], value, *arguments[at + 1:])
                    name, kept = outcome(call, *alone)
                    # Only errors of the parameter itself, the first that is told, come before those of later ones.
                    if name == "returned" or told[at][0] != name:
                        continue
                    both = (*alone[:later], None, *alone[later + 1:])
                    self.assertEqual(outcome(call, *both)[0], name, (call, both))

    def test_no_argument_is_changed(self):
        for call, arguments, _ in CALLS:
            shown = copy.deepcopy([self.shown(value) for value in arguments])
            outcome(call, *arguments)
            self.assertEqual([self.shown(value) for value in arguments], shown)
            for at in range(len(arguments)):
                for value in wrong_values():
                    before = repr(self.shown(value))
                    outcome(call, *arguments[:at], value, *arguments[at + 1:])
                    self.assertEqual(repr(self.shown(value)), before)

    def shown(self, value):
        """A value by what can be seen of it."""
        if isinstance(value, Form):
            return [value.prime, value.letters, str(value)]
        if isinstance(value, Lot):
            return [value.prime, value.lines, value.points]
        if isinstance(value, Marks):
            return [value.prime, list(value.counts.items())]
        if isinstance(value, Web):
            return [value.ties]
        if isinstance(value, Batch):
            return [value.is_open, self.shown(value.lot)]
        if isinstance(value, Desk):
            return [self.shown(value.lot), value.promises, value.version]
        if isinstance(value, Shell):
            return [self.shown(value.lot), value.promises, value.version, len(value)]
        if isinstance(value, (tuple, list)):
            return [type(value).__name__, *[self.shown(one) for one in value]]
        return value

    def test_equal_calls(self):
        for call, arguments, _ in CALLS:
            self.assertEqual(repr(self.shown(outcome(call, *arguments))), repr(self.shown(outcome(call, *arguments))))

    def test_judging_functions_return_true_or_false(self):
        for module in (numbers, tables, forms, products, lines, lots, primes, pairs, euclid, places, rows, slopes, free, press_pairs,
                       deeds,
                       generators, chains, webs, counted, promises):
            for name, call in vars(module).items():
                if name.startswith(("is_", "are_", "has_")) and inspect.isfunction(call):
                    for told, arguments, _ in CALLS:
                        if told is call:
                            self.assertIn(call(*arguments), (True, False))
                            for value in wrong_values():
                                if "value" in inspect.signature(call).parameters:
                                    self.assertIs(type(call(*arguments[:-1], value)), bool)

    def test_generators_raise_late(self):
        for made in (forms.monomials(9, 9), lines.each_line(9), primes.each_off(9), rows.each_count(9), chains.each_free_part(9, 9)):
            self.assertTrue(inspect.isgenerator(made))
            self.assertIn(outcome(next, made)[0], ("InvalidNumber", "InvalidLot"))

    def test_what_is_iterated(self):
        self.assertEqual([pair for pair in XF], [((1, 0), 1)])
        self.assertEqual([line for line in LOT], [Y, X, (1, 1, 0)])
        self.assertEqual([tie for tie in WEB], [(1, 2), (3, 4)])
        for value in (Desk(LOT).batch(), Shell(LOT)):
            self.assertEqual(outcome(iter, value)[0], "TypeError")


if __name__ == "__main__":
    unittest.main()
