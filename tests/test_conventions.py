"""The conventions [0.1] to [0.7], over all calls at once."""

import copy
import inspect
import itertools
import unittest

from support import Checks, outcome, wrong_values
from tangentrows.base import numbers, tables
from tangentrows.form import forms, products
from tangentrows.form.forms import Form
from tangentrows.plane import lines, lots, primes
from tangentrows.plane.lots import Lot

X, Y, Z = (1, 0, 0), (0, 1, 0), (0, 0, 1)
XF, YF = Form(0, 2, {(1, 0): 1}), Form(0, 2, {(0, 1): 1})
LOT, MODULO = Lot(0, (X, Y, (1, 1, 0))), Lot(5, (X, Y, Z))
TABLE = ((1, 2), (3, 4))
NUMBER, OPERATION = "InvalidNumber", "InvalidOperation"

# Each call with arguments that are right, and for each parameter the errors that it can raise.
CALLS = (
    (numbers.is_integer, (1,), ((),)), (numbers.is_prime, (1,), ((),)), (numbers.is_number, (5, 1), ((NUMBER,), ())),
    (numbers.inverse, (5, 2), ((NUMBER,), (NUMBER,))), (numbers.common_divisor, ((4, 6),), ((OPERATION,),)),
    (numbers.normal, (5, (2, 4)), ((NUMBER,), (OPERATION,))),
    (tables.rank, (5, TABLE), ((NUMBER,), ("InvalidTable",))), (tables.echelon, (5, TABLE), ((NUMBER,), ("InvalidTable",))),
    (tables.is_mix, (5, TABLE, (1, 0)), ((NUMBER,), ("InvalidTable",), ())),
    (tables.kernel, (5, TABLE), ((NUMBER,), ("InvalidTable",))),
    (tables.sent, (5, TABLE, (1, 2)), ((NUMBER,), ("InvalidTable", OPERATION), (OPERATION,))),
    (tables.determinant, (5, TABLE), ((NUMBER,), ("InvalidTable",))),
    (tables.undone, (5, TABLE), ((NUMBER,), ("InvalidTable", "Refused"))),
    (forms.Form, (5, 2, {(1, 0): 2}), ((NUMBER,), (NUMBER,), ("InvalidForm",))),
    (Form.read, (5, 2, "2x"), ((NUMBER,), (NUMBER,), ("ParseError",))),
    (XF.power, (2,), ((NUMBER,),)), (XF.at, ((1, 2),), ((OPERATION,),)), (XF.slope, ("x",), (("UnknownName",),)),
    (XF.led, ((XF, YF),), ((OPERATION,),)), (XF.over, (XF,), (("InvalidForm", OPERATION, "Refused"),)),
    (XF.order_of, (XF,), (("InvalidForm", OPERATION),)), (XF.__getitem__, ((1, 0),), ((OPERATION,),)),
    (XF.__eq__, (XF,), ((),)), (XF.__ne__, (XF,), ((),)),
    (lambda letters, degree: list(forms.monomials(letters, degree)), (2, 3), ((NUMBER,), (NUMBER,))),
    (products.linear, (5, (1, 2)), ((NUMBER,), (OPERATION,))),
    (products.product_of, (0, 2, (XF, YF)), ((NUMBER,), (NUMBER,), ("InvalidForm",))),
    (products.determinant_of, (((XF, YF), (YF, XF)),), (("InvalidForm", OPERATION),)),
    (products.is_multiple, (XF, YF), (("InvalidForm",), ("InvalidForm",))),
    (lines.is_line, (5, X), ((NUMBER,), ())), (lines.is_point, (5, X), ((NUMBER,), ())),
    (lines.line_of, (5, X), ((NUMBER,), ("InvalidLine",))),
    (lines.is_on, (5, X, Y), ((NUMBER,), ("InvalidPoint",), ("InvalidLine",))),
    (lines.meet, (5, X, Y), ((NUMBER,), ("InvalidLine",), ("InvalidLine", "Refused"))),
    (lines.join, (5, X, Y), ((NUMBER,), ("InvalidPoint",), ("InvalidPoint", "Refused"))),
    (lambda prime: list(lines.each_line(prime)), (5,), ((NUMBER,),)),
    (lots.Lot, (5, (X, Y)), ((NUMBER,), ("InvalidLot",))),
    (LOT.lines_at, (X,), (("InvalidPoint",),)), (LOT.number_at, (X,), (("InvalidPoint",),)),
    (LOT.points_on, (X,), (("InvalidLine",),)), (LOT.with_line, (Z,), (("InvalidLine", OPERATION),)),
    (LOT.without_line, (X,), (("InvalidLine", OPERATION),)), (LOT.part, ((Y, X),), ((OPERATION,),)),
    (LOT.led, ((X, Y, Z),), (("InvalidTable", "Refused", "TooMany"),)), (LOT.__contains__, (X,), ((),)),
    (LOT.__eq__, (LOT,), ((),)), (primes.reduced, (LOT, 5), (("InvalidLot", OPERATION), (NUMBER,))),
    (primes.keeps_points, (LOT, 5), (("InvalidLot", OPERATION), (NUMBER,))),
    (primes.bad_primes, (LOT,), (("InvalidLot", OPERATION),)), (primes.count_off, (MODULO,), (("InvalidLot", OPERATION),)),
    (lambda lot: list(primes.each_off(lot)), (MODULO,), (("InvalidLot", OPERATION),)),
    (primes.all_lines, (3,), ((NUMBER,),)),
)


class ConventionsTest(Checks, unittest.TestCase):
    def test_right_arguments(self):
        for call, arguments, _ in CALLS:
            self.assertEqual(outcome(call, *arguments)[0], "returned", (call, arguments))

    def test_only_the_told_errors(self):
        for call, arguments, told in CALLS:
            for at in range(len(arguments)):
                for value in wrong_values():
                    changed = (*arguments[:at], value, *arguments[at + 1:])
                    name = outcome(call, *changed)[0]
                    self.assertIn(name, ("returned", *told[at]), (call, changed))

    def test_the_first_error_is_raised(self):
        for call, arguments, told in CALLS:
            for at, later in itertools.combinations(range(len(arguments)), 2):
                for value in wrong_values():
                    alone = (*arguments[:at], value, *arguments[at + 1:])
                    name, kept = outcome(call, *alone)
                    # Only errors of the parameter itself come before those of later ones.
                    if name == "returned" or name in ("Refused", OPERATION) and told[at][0] != name:
                        continue
                    both = (*alone[:later], None, *alone[later + 1:])
                    self.assertEqual(outcome(call, *both)[0], name, (call, both))

    def test_no_argument_is_changed(self):
        for call, arguments, _ in CALLS:
            shown = copy.deepcopy([self.shown(value) for value in arguments])
            outcome(call, *arguments)
            self.assertEqual([self.shown(value) for value in arguments], shown)
            for at in range(len(arguments)):
                for value in wrong_values():
                    before = repr(self.shown(value))
                    outcome(call, *arguments[:at], value, *arguments[at + 1:])
                    self.assertEqual(repr(self.shown(value)), before)

    def shown(self, value):
        """A value by what can be seen of it."""
        if isinstance(value, Form):
            return [value.prime, value.letters, str(value)]
        if isinstance(value, Lot):
            return [value.prime, value.lines, value.points]
        if isinstance(value, (tuple, list)):
            return [type(value).__name__, *[self.shown(one) for one in value]]
        return value

    def test_equal_calls(self):
        for call, arguments, _ in CALLS:
            self.assertEqual(repr(self.shown(outcome(call, *arguments))), repr(self.shown(outcome(call, *arguments))))

    def test_judging_functions_return_true_or_false(self):
        for module in (numbers, tables, forms, products, lines, lots, primes):
            for name, call in vars(module).items():
                if name.startswith(("is_", "are_", "has_")) and inspect.isfunction(call):
                    for told, arguments, _ in CALLS:
                        if told is call:
                            self.assertIn(call(*arguments), (True, False))
                            for value in wrong_values():
                                if "value" in inspect.signature(call).parameters:
                                    self.assertIs(type(call(*arguments[:-1], value)), bool)

    def test_generators_raise_late(self):
        for made in (forms.monomials(9, 9), lines.each_line(9), primes.each_off(9)):
            self.assertTrue(inspect.isgenerator(made))
            self.assertIn(outcome(next, made)[0], ("InvalidNumber", "InvalidLot"))

    def test_what_is_iterated(self):
        self.assertEqual([pair for pair in XF], [((1, 0), 1)])
        self.assertEqual([line for line in LOT], [Y, X, (1, 1, 0)])


if __name__ == "__main__":
    unittest.main()
