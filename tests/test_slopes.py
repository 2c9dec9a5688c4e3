"""Slopes and relations: [9.1] to [9.6] and their functions."""

import itertools
import random
import unittest

from support import Checks, wrong_values
from test_forms import plain_product, some_form
from test_lines import plain_triples
from test_lots import BRAID, FIVE, GENERAL, X, Y, Z
from test_rows import HUGE, TRI, any_row, degree_of, number3, plus, powers, read, row, some_lots, some_mix, sum_at, times, zeros
from tangentrows.base.tables import echelon_of
from tangentrows.errors import InvalidForm, InvalidLot, InvalidNumber, InvalidOperation, InvalidRow, TooMany
from tangentrows.form.forms import Form, monomials
from tangentrows.form.products import linear
from tangentrows.plane.lots import Lot
from tangentrows.plane.primes import all_lines
from tangentrows.row import slopes as module
from tangentrows.row.rows import count_killing, is_tangent, plain, rows_of
from tangentrows.row.slopes import count_left, count_relations, factor_of, is_relation, relation_of, row_with, slopes

FANO = all_lines(2)


def plain_sum(lot, value):
    """The table of f F_x + g F_y + h F_z, without the bound of degrees."""
    total = {}
    for form, name in zip(value, "xyz"):
        for place, number in plain_product(lot.prime, form, lot.product.slope(name)).items():
            total[place] = total.get(place, 0) + number
    return {place: n for place, n in total.items() if (n % lot.prime if lot.prime else n)}


def terms(degree):
    return (degree + 1) * (degree + 2) // 2 if degree >= 0 else 0


class SlopesTest(Checks, unittest.TestCase):
    def test_constants(self):
        self.assert_same([module.MAX_LINES, module.MAX_RELATION, module.MAX_LEFT], [7, 4, 40])

    def test_slopes(self):
        for lot in (*some_lots(), Lot(0, GENERAL[:13])):
            told = slopes(lot)
            self.assertIs(type(told), tuple)
            self.assertEqual(told, tuple(lot.product.slope(name) for name in "xyz"))
        self.assertEqual([str(form) for form in slopes(Lot(0, ((1, 2, 3),)))], ["1", "2", "3"])
        self.assertEqual([str(form) for form in slopes(Lot(2, ((1, 0, 1),)))], ["1", "0", "1"])

    def test_tangent_rows_are_told_by_the_slopes(self):
        source = random.Random(101)
        for lot in some_lots():
            product = lot.product
            for degree in (0, 1, 2):
                for value in (any_row(source, lot.prime, degree), some_mix(source, lot, degree)):
                    total = Form(lot.prime, 3)
                    for form, slope in zip(value, slopes(lot)):
                        total = total + form * slope
                    try:
                        told = total.over(product)
                    except ArithmeticError:
                        self.assertIs(is_tangent(lot, value), False)
                        continue
                    self.assertIs(is_tangent(lot, value), True)
                    self.assertEqual(factor_of(lot, value), told)
                    self.assertIn(told.degree, (None, (degree_of(value) or 0) - 1))

    def test_factors(self):
        for lot in some_lots():
            many = lot.many % lot.prime if lot.prime else lot.many
            self.assertEqual(factor_of(lot, plain(lot.prime)), number3(lot.prime, many))
            self.assertEqual(factor_of(lot, zeros(lot.prime)), Form(lot.prime, 3))
            for value in rows_of(lot, 2):
                total = Form(lot.prime, 3)
                for line in lot.lines:
                    total = total + sum_at(line, value).over(linear(lot.prime, line))
                self.assertEqual(factor_of(lot, value), total)
        self.assertEqual(factor_of(BRAID, powers(40)).degree, 39)
        self.assertEqual(factor_of(BRAID, times(powers(2), number3(0, HUGE))), factor_of(BRAID, powers(2)) * number3(0, HUGE))

    def test_is_relation(self):
        source = random.Random(102)
        for lot in some_lots():
            self.assertIs(is_relation(lot, zeros(lot.prime)), True)
            divides = bool(lot.prime) and lot.many % lot.prime == 0
            self.assertIs(is_relation(lot, plain(lot.prime)), divides)
            for degree in (0, 1, 2):
                for value in (any_row(source, lot.prime, degree), some_mix(source, lot, degree)):
                    self.assertIs(is_relation(lot, value), not plain_sum(lot, value))

    def test_great_relations(self):
        one = row("x", "-y", "0")
        for factor in (read("x - z").power(39), number3(0, HUGE), number3(0, 10 ** 3000 + 1), read("y").power(39)):
            self.assertIs(is_relation(TRI, times(one, factor)), True)
            self.assertIs(is_relation(TRI, plus(times(one, factor), times(row("z", "0", "0"), factor))), False)
        lot = Lot(0, GENERAL[:13])
        self.assertIs(is_relation(lot, powers(40)), False)
        F_x, F_y, _ = slopes(lot)
        self.assertIs(is_relation(lot, (F_y, -F_x, Form(0, 3))), True)

    def test_no_relations(self):
        zero = Form(0, 3)
        for value in (*wrong_values(), (zero, zero), [zero, zero, zero], (zero, zero, zero, zero), zeros(5), (zero, zero, None), zero,
                      (read("x"), read("y^2"), zero), (Form(0, 2),) * 3, (zero, zero, Form(0, 2))):
            self.assertIs(is_relation(TRI, value), False)
        for value in wrong_values():
            if not isinstance(value, Lot):
                for call in (lambda: slopes(value), lambda: is_relation(value, None), lambda: factor_of(value, None),
                             lambda: relation_of(value, None), lambda: row_with(value, None, None), lambda: count_relations(value, None),
                             lambda: count_left(value, None)):
                    self.assert_raises(InvalidLot, call)


class RelationTest(Checks, unittest.TestCase):
    def test_relation_of(self):
        source = random.Random(103)
        for lot in some_lots():
            many = number3(lot.prime, lot.many)
            for degree in (0, 1, 2, 3):
                value = some_mix(source, lot, degree)
                if not many:
                    self.assert_raises(InvalidOperation, relation_of, lot, value)
                    continue
                told = relation_of(lot, value)
                self.assertIs(is_relation(lot, told), True)
                factor = factor_of(lot, value)
                self.assertEqual(told, plus(times(value, many), times(plain(lot.prime), -factor)))
                self.assertEqual(row_with(lot, factor, told), times(value, many))
        self.assertEqual(relation_of(BRAID, powers(40))[0].degree, 40)
        self.assertEqual(relation_of(TRI, plain(0)), zeros(0))
        self.assertEqual(relation_of(TRI, zeros(0)), zeros(0))

    def test_errors_of_rows(self):
        for value in (*wrong_values(), row("x", "0", "0"), list(powers(2)), powers(2)[:2], powers(2, 5), row("y^2", "x^2", "0")):
            self.assert_raises(InvalidRow, factor_of, BRAID, value)
            self.assert_raises(InvalidRow, relation_of, BRAID, value)
        for lot in (Lot(3, TRI.lines), Lot(2, (X, Y)), Lot(7, tuple(plain_triples(7)[:7]))):
            self.assert_raises(InvalidRow, relation_of, lot, plain(0))
            self.assert_raises(InvalidOperation, relation_of, lot, plain(lot.prime))

    def test_row_with(self):
        source = random.Random(104)
        for lot in some_lots():
            zero = Form(lot.prime, 3)
            for degree in (0, 1, 2):
                factor = some_form(source, lot.prime, 3, degree)
                self.assertEqual(row_with(lot, factor, zeros(lot.prime)), times(plain(lot.prime), factor))
                value = some_mix(source, lot, degree + 1)
                if lot.many % lot.prime if lot.prime else lot.many:
                    relation = relation_of(lot, value)
                    told = row_with(lot, factor, relation)
                    self.assertEqual(told, plus(times(plain(lot.prime), factor), relation))
                    self.assertIs(is_tangent(lot, told), True)
                    self.assertEqual(row_with(lot, zero, relation), relation)
            self.assertEqual(row_with(lot, zero, zeros(lot.prime)), zeros(lot.prime))

    def test_errors_of_row_with(self):
        one, zero = row("x", "-y", "0"), Form(0, 3)
        for value in wrong_values():
            if value != zero:
                self.assert_raises(InvalidForm, row_with, TRI, value, None)
        for value in (Form(5, 3), Form(0, 2), read("x", 5)):
            self.assert_raises(InvalidForm, row_with, TRI, value, one)
        for value in (*wrong_values(), plain(0), row("x", "y", "0"), list(one), one[:2], row("x", "4y", "0", 5)):
            if value != zeros(0):
                self.assert_raises(InvalidRow, row_with, TRI, read("x").power(40), value)
        for factor, relation in (("x", one), ("x^2", one), ("1", times(one, read("x"))), ("x^40", one), ("1", times(one, read("x^39"))),
                                 ("x^40", times(one, read("x^39")))):
            self.assert_raises(InvalidOperation, row_with, TRI, read(factor), relation)
        pencil = Lot(0, (X, Y, (1, 1, 0)))
        self.assertEqual(row_with(pencil, zero, row("0", "0", "5")), row("0", "0", "5"))
        for factor in ("1", "x"):
            self.assert_raises(InvalidOperation, row_with, pencil, read(factor), row("0", "0", "5"))
        self.assert_raises(TooMany(40), row_with, TRI, read("x^40"), zeros(0))
        self.assertEqual(row_with(TRI, read("x^39"), times(one, read("x^39"))), row("2x^40", "0", "x^39z"))
        self.assertEqual(row_with(TRI, read("5"), one), row("6x", "4y", "5z"))


class CountTest(Checks, unittest.TestCase):
    def test_all_small_relations(self):
        for lot in (Lot(2, (X, Y)), Lot(2, (X, Y, Z)), Lot(2, (X,)), Lot(2, tuple(plain_triples(2)[:6])), FANO, Lot(2, (X, Y, Z, (1, 1, 1)))):
            for degree in (0, 1):
                places = list(monomials(3, degree))
                forms = [Form(2, 3, {place: 1 for place, n in zip(places, bits) if n}) for bits in itertools.product((0, 1), repeat=len(places))]
                told = [value for value in itertools.product(forms, repeat=3) if not plain_sum(lot, value)]
                self.assertEqual(len(told), 2 ** count_relations(lot, degree))

    def test_as_many_as_rows_that_kill_a_line(self):
        for lot in some_lots():
            if lot.many % lot.prime if lot.prime else lot.many:
                self.assert_same([count_relations(lot, k) for k in range(5)], [count_killing(lot, k) for k in range(5)])

    def test_as_many_forms_as_are_left(self):
        for lot in some_lots():
            n = lot.many
            if lot.prime and n % lot.prime == 0:
                for degree in (0, 3, 40):
                    self.assert_raises(InvalidOperation, count_left, lot, degree)
                continue
            for degree in range(n + 4):
                relations = count_relations(lot, degree - n + 1) if degree >= n - 1 else 0
                self.assert_same(count_left(lot, degree), terms(degree) - 3 * terms(degree - n + 1) + relations)
            for degree in (2 * n - 3, 2 * n - 2, 40):
                self.assert_same(count_left(lot, degree), lot.squares) if n >= 2 else None
        self.assert_same([count_left(Lot(0, ((1, 2, 3),)), degree) for degree in (0, 1, 5, 40)], [0, 0, 0, 0])

    def test_forms_that_are_apart(self):
        # The multiples of the slopes of one degree, counted by themselves.
        for lot in (TRI, FIVE, Lot(3, (X, Y)), Lot(5, (X, Y, Z, (1, 4, 0), (1, 0, 4), (0, 1, 4)))):
            for degree in range(7):
                more = degree - lot.many + 1
                places = list(monomials(3, degree))
                rows = [[form[place] for place in places] for slope in slopes(lot) for factor in (monomials(3, more) if more >= 0 else ())
                        for form in (slope * Form(lot.prime, 3, {factor: 1}),)]
                self.assertEqual(count_left(lot, degree), len(places) - len(echelon_of(lot.prime, rows)))

    def test_errors(self):
        eight = Lot(0, GENERAL[:8])
        for degree in (-1, 5, True, False, None, "1", (1,), [], {}, 10 ** 60, BRAID):
            for lot in (BRAID, eight):
                self.assert_raises(InvalidNumber(degree), count_relations, lot, degree)
        for degree in (-1, 41, True, False, None, "1", (1,), [], {}, 10 ** 60, BRAID):
            for lot in (BRAID, eight, Lot(3, TRI.lines)):
                self.assert_raises(InvalidNumber(degree), count_left, lot, degree)
        self.assert_raises(TooMany(7), count_relations, eight, 4)
        self.assert_raises(TooMany(7), count_left, eight, 40)
        self.assert_raises(InvalidOperation, count_left, Lot(3, tuple(plain_triples(3)[:9])), 3)
        seven = Lot(0, GENERAL[:7])
        self.assertEqual([count_relations(seven, 4), count_left(seven, 40)], [count_killing(seven, 4), seven.squares])

    def test_what_is_not_true(self):
        # The prime divides the number of the lines: the plain row is a relation, and the numbers differ.
        lot = Lot(3, (X, (1, 1, 0), (1, 2, 0)))
        self.assertIs(is_relation(lot, plain(3)), True)
        self.assertEqual([count_relations(lot, k) for k in range(3)], [1, 4, 9])
        self.assertEqual([count_killing(lot, k) for k in range(3)], [1, 3, 7])
        # The number of the forms that are left can fall.
        self.assertEqual([count_left(FIVE, degree) for degree in range(4, 9)], [12, 12, 10, 10, 10])


if __name__ == "__main__":
    unittest.main()
