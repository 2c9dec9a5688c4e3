"""The examples of the document, as it prints them."""

import unittest

from support import Checks, check_examples
from tangentrows import errors
from tangentrows.base import numbers, tables
from tangentrows.form import forms, products
from tangentrows.plane import lines, lots, primes

LOTS = """
>>> BRAID = Lot(0, ((1, 0, 0), (0, 1, 0), (0, 0, 1), (1, -1, 0), (1, 0, -1), (0, 1, -1)))
>>> FIVE = Lot(0, ((1, 0, 0), (0, 1, 0), (0, 0, 1), (1, 1, 1), (1, 2, 3)))
>>> FAN = Lot(0, ((1, 0, 0), (0, 1, 0), (1, 1, 0), (1, -1, 0), (1, 2, 0), (0, 0, 1), (1, 3, 1)))
>>> PLUS = Lot(0, ((1, 0, 0), (0, 1, 0), (0, 0, 1), (1, 1, 0), (1, 0, 1), (0, 1, 1), (1, 1, 1)))
>>> FANO = Lot(2, ((0, 0, 1), (0, 1, 0), (0, 1, 1), (1, 0, 0), (1, 0, 1), (1, 1, 0), (1, 1, 1)))
"""

NUMBERS = """
>>> [is_prime(0), is_prime(4), is_number(5, 4), is_number(5, 5), is_number(0, -3), is_number(3, True)]
[True, False, True, False, True, False]
>>> [inverse(7, 3), common_divisor((4, -6, 0)), common_divisor(()), normal(0, (0, -4, 6)), normal(5, (0, 2, 1))]
[5, 2, 0, (0, 2, -3), (0, 1, 3)]
"""

TABLES = """
>>> SOME = ((1, 2, 3), (2, 4, 6), (1, 0, 1))
>>> [rank(0, SOME), echelon(0, SOME), kernel(0, SOME), is_mix(0, SOME, (0, 1, 1)), is_mix(0, SOME, (0, 1, 0))]
[2, ((1, 0, 1), (0, 1, 1)), ((1, 1, -1),), True, False]
>>> [kernel(2, ((1, 0, 1), (0, 0, 0))), sent(0, ((1, 2), (3, 4)), (1, -1))]
[((1, 0, 1), (0, 1, 0)), (-1, -1)]
>>> [determinant(5, ((2, 1), (1, 3))), undone(0, ((1, 2), (3, 4)))]
[0, ((4, -2), (-3, 1))]
>>> undone(0, ((1, 2), (2, 4)))
raises Refused(("flat",))
"""

FORMS = """
>>> X, Y = linear(0, (1, 0)), linear(0, (0, 1))
>>> f = X * X * Y * 2 - Y.power(3)
>>> [str(f), f.degree, f[(2, 1)], f[(1, 2)], len(f), list(f), f.at((1, 2)), str(f.slope("y"))]
['2x^2y - y^3', 3, 2, 0, 2, [((2, 1), 2), ((0, 3), -1)], -4, '2x^2 - 3y^2']
>>> [str((X * X - Y * Y).over(X + Y)), (X.power(3) * (X + Y)).order_of(X), str((-f).cleared()), str(f.led((Y, X)))]
['x - y', 3, '2x^2y - y^3', '-x^3 + 2xy^2']
>>> [Form.read(5, 3, "x^2 + 3yz").table, str(f - f), (f - f).degree]
[{(0, 1, 1): 3, (2, 0, 0): 1}, '0', None]
>>> [str(product_of(3, 2, (linear(3, (1, 1)), linear(3, (1, 2))))), str(determinant_of(((X, Y), (Y, X))))]
['x^2 + 2y^2', 'x^2 - y^2']
"""

PLANE = """
>>> [line_of(0, (-2, 4, 6)), line_of(5, (0, 2, 4)), is_line(0, (1, -1001, 0)), meet(0, (1, 0, 0), (1, -1, 2)), join(7, (1, 2, 3), (0, 1, 6)), is_on(2, (1, 1, 0), (1, 1, 1))]
[(1, -2, -3), (0, 1, 2), False, (0, 2, 1), (1, 4, 4), True]
>>> [BRAID.lines[:4], BRAID.points[:4], BRAID.many, BRAID.second, BRAID.rest, BRAID.squares, BRAID.factors, BRAID.is_bundle]
[((0, 0, 1), (0, 1, -1), (0, 1, 0), (1, -1, 0)), ((0, 0, 1), (0, 1, 0), (0, 1, 1), (1, 0, 0)), 6, 11, 6, 19, (1, -5, 6), False]
>>> [BRAID.lines_at((1, 1, 1)), BRAID.number_at((0, 1, 1)), BRAID.points_on((1, 0, 0)), BRAID.points_on((1, 1, 1)), FIVE.rest, FAN.rest, FANO.rest]
[((0, 1, -1), (1, -1, 0), (1, 0, -1)), 2, ((0, 0, 1), (0, 1, 0), (0, 1, 1)), ((0, 1, -1), (1, -2, 1), (1, -1, 0), (1, 0, -1), (1, 1, -2), (2, -1, -1)), 6, 9, 8]
>>> FIVE.led(((1, 0, 0), (0, 1, 0), (0, 0, 2))).lines
((0, 0, 1), (0, 1, 0), (1, 0, 0), (2, 2, 1), (2, 4, 3))
>>> [list(each_line(2)) == list(FANO), BRAID.without_line((1, 0, 0)).rest, len(BRAID | FIVE)]
[True, 4, 8]
>>> BRAID.with_line((0, 1, 0))
raises InvalidOperation
"""

MODULO = """
>>> [bad_primes(lot) for lot in (BRAID, FIVE, PLUS)], keeps_points(PLUS, 2), keeps_points(PLUS, 3)
([(), (2, 3), (2,)], False, True)
>>> reduced(PLUS, 2) == FANO, reduced(PLUS, 2).rest, PLUS.rest, all_lines(2) == FANO
(True, 8, 9, True)
>>> [count_off(reduced(BRAID, prime)) for prime in (2, 3, 5, 7)], list(each_off(reduced(PLUS, 5)))
([0, 0, 6, 20], [(1, 1, 1), (1, 1, 2), (1, 2, 1), (1, 3, 3)])
>>> reduced(FAN, 3)
raises Refused(("fall", (1, -1, 0), (1, 2, 0)))
"""


def names_of(*modules):
    """The names of some modules in one dict."""
    found = {}
    for module in (errors, *modules):
        found.update(vars(module))
    return found


class ExamplesTest(Checks, unittest.TestCase):
    maxDiff = None

    def test_numbers(self):
        check_examples(self, names_of(numbers), NUMBERS)

    def test_tables(self):
        check_examples(self, names_of(tables), TABLES)

    def test_forms(self):
        check_examples(self, names_of(forms, products), FORMS)

    def test_lines_and_lots(self):
        check_examples(self, names_of(lines, lots), LOTS + PLANE.lstrip("\n"))

    def test_lots_modulo_a_prime(self):
        check_examples(self, names_of(lots, primes), LOTS + MODULO.lstrip("\n"))

    def test_what_is_said_of_them(self):
        names = names_of(lots, primes)
        check_examples(self, names, LOTS)
        five = names["reduced"](names["FIVE"], 2)
        self.assertEqual([five.many, five.rest, names["count_off"](five)], [5, 4, 0])
        plus = names["PLUS"]
        doubles = [point for point in plus.points if plus.number_at(point) == 2]
        self.assertEqual([tuple(number % 2 for number in point) for point in doubles], [(1, 1, 1)] * 3)


if __name__ == "__main__":
    unittest.main()
