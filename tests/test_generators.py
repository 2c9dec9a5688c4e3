"""Generators of the tangent rows of a lot: [13.1] to [13.5] and their functions."""

import random
import unittest

from support import Checks, outcome, wrong_values
from test_deeds import NONET, ONE
from test_forms import some_form
from test_free import CUBES, FANO, free_lots, terms
from test_lines import NO_TRIPLES, plain_triples, some_triples
from test_lots import BRAID, FIVE, GENERAL, PENCIL, X, Y, Z
from test_primes import FAN, PLUS
from test_rows import HUGE, TRI, degree_of, flat, number3, plus, powers, read, row, some_mix, times, zeros
from tangentrows.base.tables import kernel_of, rank_of
from tangentrows.errors import InvalidLine, InvalidLot, InvalidOperation, InvalidRow, Refused, TooMany
from tangentrows.form.forms import Form, monomials
from tangentrows.free.deeds import degrees_without
from tangentrows.free.free import are_free_rows, degrees_of, free_rows, is_free
from tangentrows.plane.lots import Lot
from tangentrows.plane.primes import all_lines
from tangentrows.row import generators as module
from tangentrows.row.generators import (are_generators, degrees_left, generator_degrees, generators, is_told_by_generators,
                                        relation_degrees, told_by_generators)
from tangentrows.row.rows import count_killing, count_rows, is_tangent, plain

GRID = Lot(0, (Z, Y, (0, 1, -1), (0, 1, 1), X, (1, 0, -1)))
SIX = Lot(0, GENERAL[:6])


def small_lots():
    """Lots of up to six lines, free ones and others, over 0 and over small primes."""
    yield from (BRAID, FIVE, GRID, TRI, ONE, SIX, Lot(0, PENCIL[:2]), Lot(0, PENCIL[:6]), Lot(0, PENCIL[:3] + (Z,)), Lot(0, GENERAL[:4]))
    yield from (GRID.without_line(Z), Lot(0, PENCIL[:5] + (Z,)), FAN.without_line(Z), FAN.without_line(X), PLUS.without_line(X))
    source = random.Random(161)
    for prime in (2, 3, 5, 7):
        for many in (1, 2, 3, 4, 5, 6):
            for _ in range(2):
                yield Lot(prime, tuple(source.sample(plain_triples(prime), many)))
    yield Lot(0, tuple(some_triples(source, 6, 4)))


def monomial_multiples(prime, one, degree):
    """The row, multiplied by each monomial up to a degree."""
    return [times(one, Form(prime, 3, {place: 1})) for place in monomials(3, degree - degree_of(one))] if degree >= degree_of(one) else []


def rank_with(lot, rows, degree):
    """The rank of all multiples of the plain row and of some rows in a degree."""
    found = []
    for one in (plain(lot.prime), *rows):
        found.extend(flat(multiple, degree) for multiple in monomial_multiples(lot.prime, one, degree))
    return rank_of(lot.prime, found)


def tell_all(lot, rows):
    """Whether the plain row and the rows tell all tangent rows, degree by degree; from the degree 5 on nothing new comes."""
    return all(rank_with(lot, rows, degree) == count_rows(lot, degree) for degree in range(7))


def are_plainly_generators(lot, rows):
    """Whether rows that are tangent, and not zero, are generators, by the words of [13.1]."""
    return tell_all(lot, rows) and not any(tell_all(lot, rows[:at] + rows[at + 1:]) for at in range(len(rows)))


def mixed_generators(source, lot, great):
    """Other generators: multiplied by numbers, mixed with multiples of the plain row and of one another, in another order."""
    prime = lot.prime
    rows = list(generators(lot))
    changed = []
    for at, one in enumerate(rows):
        value = times(one, number3(prime, great if prime == 0 else source.randint(1, prime - 1)))
        for other in rows[:at]:
            value = plus(value, times(other, some_form(source, prime, 3, degree_of(one) - degree_of(other))))
        if degree_of(one) > 0:
            value = plus(value, times(plain(prime), some_form(source, prime, 3, degree_of(one) - 1)))
        changed.append(value)
    source.shuffle(changed)
    return tuple(changed)


class DegreesTest(Checks, unittest.TestCase):
    def test_constants(self):
        self.assert_same([module.MOST_LINES, module.MOST_TOLD], [6, 5])

    def test_generators(self):
        for lot in small_lots():
            rows = generators(lot)
            degrees = generator_degrees(lot)
            self.assertIs(type(rows), tuple)
            self.assert_same(tuple(degree_of(one) for one in rows), degrees)
            self.assertEqual(list(degrees), sorted(degrees))
            self.assertTrue(all(is_tangent(lot, one) for one in rows))
            self.assertLessEqual(max(degrees), lot.many - (1 if lot.is_bundle else 2))
            self.assertTrue(tell_all(lot, rows))
            self.assertIs(are_generators(lot, rows), True)
            self.assertTrue(all(abs(number) < 10 ** 4000 for one in rows for form in one for _, number in form))

    def test_none_can_be_left_out(self):
        for lot in (BRAID, FIVE, GRID, ONE, TRI, GRID.without_line(Z), Lot(0, PENCIL[:3] + (Z,)), Lot(2, FANO.lines[:5])):
            self.assertTrue(are_plainly_generators(lot, generators(lot)))

    def test_relations(self):
        told = set()
        for lot in small_lots():
            degrees, relations = generator_degrees(lot), relation_degrees(lot)
            self.assertIs(type(relations), tuple)
            self.assertEqual(list(relations), sorted(relations))
            self.assertEqual(len(relations), len(degrees) - 2)
            self.assertEqual(sum(degrees) - sum(relations), lot.many - 1)
            for k in range(8):
                self.assertEqual(count_killing(lot, k), sum(terms(k - a) for a in degrees) - sum(terms(k - b) for b in relations))
            self.assertEqual(is_free(lot), len(degrees) == 2)
            if is_free(lot):
                self.assert_same([degrees, relations], [degrees_of(lot), ()])
            told.add((degrees, relations))
        self.assertGreater(len(told), 8)

    def test_some_degrees(self):
        self.assert_same([generator_degrees(SIX), relation_degrees(SIX)], [(4, 4, 4, 4, 4), (5, 5, 5)])
        self.assert_same([generator_degrees(ONE), relation_degrees(ONE)], [(0, 0), ()])
        self.assert_same([generator_degrees(Lot(0, PENCIL[:6])), generator_degrees(Lot(0, PENCIL[:2]))], [(0, 5), (0, 1)])
        self.assert_same([generator_degrees(PLUS.without_line(X)), generator_degrees(FAN.without_line(Z))], [(3, 3, 3), (1, 4)])

    def test_errors(self):
        for value in wrong_values():
            if not isinstance(value, Lot):
                for call in (generator_degrees, relation_degrees, generators):
                    self.assert_raises(InvalidLot, call, value)
                self.assert_raises(InvalidLot, are_generators, value, None)
                self.assert_raises(InvalidLot, told_by_generators, value, None, None)
                self.assert_raises(InvalidLot, is_told_by_generators, value, None, None, None)
                self.assert_raises(InvalidLot, degrees_left, value, None)
        for lot in (FAN, PLUS, FANO, CUBES, all_lines(3), Lot(0, PENCIL)):
            for call in (generator_degrees, relation_degrees, generators):
                self.assert_raises(TooMany(6), call, lot)
            self.assert_raises(TooMany(6), are_generators, lot, None)
            # Few lines are demanded ahead of the generators.
            self.assert_raises(TooMany(6), told_by_generators, lot, None, None)
            self.assert_raises(TooMany(6), is_told_by_generators, lot, None, None, None)


class GeneratorsTest(Checks, unittest.TestCase):
    def test_other_generators(self):
        source = random.Random(162)
        for lot in small_lots():
            rows = generators(lot)
            self.assertIs(are_generators(lot, rows[::-1]), True)
            self.assertIs(are_generators(lot, mixed_generators(source, lot, source.randint(1, 10 ** 50))), True)
            if lot.prime == 0:
                self.assertIs(are_generators(lot, mixed_generators(source, lot, HUGE)), True)
            if is_free(lot):
                self.assertIs(are_generators(lot, free_rows(lot)), True)

    def test_no_generators(self):
        source = random.Random(163)
        for lot in (BRAID, FIVE, GRID.without_line(Z), ONE, TRI, Lot(5, FIVE.lines), Lot(2, FANO.lines[:6])):
            prime, rows = lot.prime, generators(lot)
            x = read("x", prime)
            last = rows[-1]
            others = (rows + rows[:1], rows[1:], rows[:-1], (), rows + (zeros(prime),), rows + (plain(prime),),
                      rows[:-1] + (times(last, x),),
                      rows[:-1] + (zeros(prime),), rows[:-1] + (rows[0],), list(rows), rows[0], (rows,), (*rows, None),
                      (*rows[:-1], None),
                      rows[:-1] + (list(last),), rows[:-1] + (last[:2],), rows + (times(last, x),))
            for value in others:
                self.assertIs(are_generators(lot, value), False)
            if degree_of(last) > 0:
                multiple = times(plain(prime), some_form(source, prime, 3, degree_of(last) - 1, 1))
                self.assertIs(are_generators(lot, rows[:-1] + (multiple,)), False)
                self.assertIs(are_generators(lot, rows[:-1] + (plus(multiple, last),)), True)
        for value in wrong_values():
            self.assertIs(are_generators(BRAID, value), False)
            self.assertIs(are_generators(ONE, value), False)

    def test_right_degrees_do_not_suffice(self):
        one, other = generators(BRAID)
        self.assertIs(are_generators(BRAID, (one, times(one, read("x + y")))), False)
        a, b, c, d = generators(FIVE)
        self.assertIs(are_generators(FIVE, (a, b, c, plus(plus(a, b), times(c, number3(0, -HUGE))))), False)
        self.assertIs(are_generators(FIVE, (a, b, c, plus(d, times(c, number3(0, -HUGE))))), True)
        self.assertIs(are_generators(FIVE, (a, b, c, times(plain(0), read("x^2 + yz")))), False)
        # A row that is not tangent.
        self.assertIs(are_generators(FIVE, (a, b, c, row("x^3", "y^3", "z^3"))), False)
        self.assertIs(are_generators(BRAID, (powers(2), powers(3))), True)
        self.assertIs(are_generators(Lot(5, BRAID.lines[2:3]), (powers(2), powers(3))), False)

    def test_by_definition(self):
        source = random.Random(164)
        told = {True: 0, False: 0}
        for lot in (Lot(2, FANO.lines[:5]), Lot(3, (Z, Y, X, (1, 1, 1)))):
            degrees = generator_degrees(lot)
            for _ in range(30):
                value = tuple(some_mix(source, lot, degree) for degree in degrees)
                if all(any(one) for one in value):
                    expected = are_plainly_generators(lot, value)
                    self.assertIs(are_generators(lot, value), expected)
                    told[expected] += 1
        self.assertGreater(min(told.values()), 3)


class ToldTest(Checks, unittest.TestCase):
    def check(self, lot, rows, value):
        """The paper is right, by reckoning, and judged to be right; its scale."""
        paper = told_by_generators(lot, rows, value)
        self.assertTrue(type(paper) is tuple and len(paper) == 2)
        scale, forms = paper
        self.assertTrue(type(scale) is int and scale != 0 and (lot.prime == 0 or 0 < scale < lot.prime))
        self.assertTrue(type(forms) is tuple and len(forms) == len(rows) + 1)
        total = zeros(lot.prime)
        for one, form in zip((plain(lot.prime), *rows), forms):
            self.assertEqual([form.prime, form.letters], [lot.prime, 3])
            total = plus(total, times(one, form))
        self.assertEqual(total, times(value, number3(lot.prime, scale)))
        self.assertIs(is_told_by_generators(lot, rows, value, paper), True)
        for number in (scale, *[number for form in forms for _, number in form]):
            self.assertLess(abs(number), 10 ** 4000)
        return scale

    def test_told(self):
        source = random.Random(165)
        for lot in small_lots():
            rows = generators(lot)
            others = mixed_generators(source, lot, source.randint(1, 10 ** 30))
            for degree, told in enumerate((rows, others, rows, others, rows, others)):
                self.check(lot, told, some_mix(source, lot, degree))
            self.check(lot, others, plain(lot.prime))
            for one in rows:
                self.check(lot, others, one)

    def test_great_numbers(self):
        source = random.Random(166)
        for lot in (BRAID, FIVE, SIX, GRID.without_line(Z), ONE):
            for digits in (100, 300, 500):
                rows = list(generators(lot))
                for at, one in enumerate(rows):
                    value = times(one, number3(0, source.randint(1, 10 ** digits)))
                    for other in generators(lot):
                        if other is not one and degree_of(other) <= degree_of(one):
                            form = some_form(source, 0, 3, degree_of(one) - degree_of(other)) * number3(0,
                                source.randint(1, 10 ** digits))
                            value = plus(value, times(other, form))
                    rows[at] = value
                rows = tuple(rows)
                if are_generators(lot, rows):
                    for degree in (3, 5):
                        value = times(some_mix(source, lot, degree), number3(0, HUGE + 10 ** digits))
                        self.check(lot, rows, value)
        changed = tuple(times(one, number3(0, HUGE + at)) for at, one in enumerate(generators(FIVE)))
        for one in generators(FIVE):
            self.assertNotEqual(self.check(FIVE, changed, one), 0)

    def test_the_zero_row(self):
        for lot in (BRAID, FIVE, ONE, FANO.without_line(X)):
            rows, nothing = generators(lot), zeros(lot.prime)
            self.check(lot, rows, nothing)
            zero, one = Form(lot.prime, 3), number3(lot.prime, 1)
            empty = (zero,) * (len(rows) + 1)
            self.assertIs(is_told_by_generators(lot, rows, nothing, (1, empty)), True)
            self.assertIs(is_told_by_generators(lot, rows, nothing, (0, empty)), False)
            self.assertIs(is_told_by_generators(lot, rows, nothing, (True, empty)), False)
            self.assertIs(is_told_by_generators(lot, rows, nothing, (1, (one, *empty[1:]))), False)

    def test_papers_with_another_scale(self):
        source = random.Random(167)
        for lot in (BRAID, FIVE, GRID.without_line(Z), Lot(5, FIVE.lines), Lot(3, (Y, X, (1, 1, 0)))):
            rows, prime = generators(lot), lot.prime
            value = some_mix(source, lot, 4)
            scale, forms = told_by_generators(lot, rows, value)
            many = (2, -1, -3, HUGE, -HUGE) if prime == 0 else range(2, prime)
            for number in many:
                other = scale * number % prime if prime else scale * number
                changed = tuple(form * number3(prime, number) for form in forms)
                self.assertIs(is_told_by_generators(lot, rows, value, (other, changed)), True)
                self.assertIs(is_told_by_generators(lot, rows, value, (other, forms)), False)
                self.assertIs(is_told_by_generators(lot, rows, value, (scale, changed)), False)
            if prime:
                self.assertIs(is_told_by_generators(lot, rows, value, (scale + prime, forms)), False)
                self.assertIs(is_told_by_generators(lot, rows, value, (scale - prime, forms)), False)
                # The prime is 0 over itself, but no number.
                nothing = (Form(prime, 3),) * len(forms)
                self.assertIs(is_told_by_generators(lot, rows, value, (prime, nothing)), False)
                self.assertIs(is_told_by_generators(lot, rows, zeros(prime), (prime, nothing)), False)

    def test_papers_with_relations(self):
        # FIVE has relations of the degree 4; each can be added to a paper.
        lot, rows = FIVE, generators(FIVE)
        source = random.Random(168)
        plainly = (1, (read("0"), read("x"), read("0"), read("0"), read("0")))
        self.assertIs(is_told_by_generators(lot, rows, times(rows[0], read("x")), plainly), True)
        value = some_mix(source, lot, 5)
        scale, forms = told_by_generators(lot, rows, value)
        relation = self.some_relation(rows)
        for times_it in (read("x"), read("-3y + z"), read("7z") * number3(0, HUGE)):
            changed = tuple(form + part * times_it for form, part in zip(forms, relation))
            self.assertIs(is_told_by_generators(lot, rows, value, (scale, changed)), True)
        # A relation tells the zero row, in any degree up to 40.
        for power, expected in ((0, True), (1, True), (36, True), (37, False)):
            factor = read("x").power(power)
            changed = tuple(part * factor for part in relation)
            self.assertEqual(max(part.degree for part in changed[1:] if part), power + 1)
            self.assertIs(is_told_by_generators(lot, rows, zeros(0), (1, changed)), expected)

    def test_papers_of_several_degrees(self):
        # The last three generators of FIVE have a relation of the degree 6; the first one is told by itself.
        rows = generators(FIVE)
        q, *others = self.some_relation(rows[1:], 6)
        self.assertIs(is_told_by_generators(FIVE, rows, zeros(0), (1, (q, read("0"), *others))), True)
        self.assertIs(is_told_by_generators(FIVE, rows, rows[0], (1, (q, read("1"), *others))), False)
        self.assertIs(is_told_by_generators(FIVE, rows, times(rows[0], read("x")), (1, (q, read("x"), *others))), False)
        self.assertIs(is_told_by_generators(FIVE, rows, times(rows[0], read("y^2")), (1, (q, read("y^2"), *others))), False)
        self.assertEqual({form.degree for form in others if form}, {3})

    def some_relation(self, rows, degree=4):
        """Forms for the plain row and for some rows whose sum is zero; not all of them are zero."""
        columns = []
        for at, one in enumerate((plain(0), *rows)):
            columns += [(at, place, flat(times(one, Form(0, 3, {place: 1})), degree)) for place in monomials(3, degree - degree_of(one))]
        equations = [list(line) for line in zip(*[numbers for _, _, numbers in columns])]
        numbers = kernel_of(0, equations, len(columns))[0]
        found = [Form(0, 3) for _ in range(len(rows) + 1)]
        for (at, place, _), number in zip(columns, numbers):
            if number:
                found[at] = found[at] + Form(0, 3, {place: number})
        return found

    def test_no_papers(self):
        for lot in (BRAID, FIVE, Lot(5, FIVE.lines)):
            prime, rows = lot.prime, generators(lot)
            value = times(rows[0], read("x", prime))
            scale, forms = told_by_generators(lot, rows, value)
            zero, x, y = Form(prime, 3), read("x", prime), read("y", prime)
            wrong = [None, (), (scale,), (scale, forms, 1), [scale, forms], (scale, list(forms)), (scale, forms[:-1]),
                     (scale, forms + (zero,)),
                     (forms, scale), (str(scale), forms), (scale, None), (scale, 1), (None, forms), (0, forms), (False, forms),
                     (scale, (None, *forms[1:])), (scale, (Form(prime, 2), *forms[1:])), (scale, (Form(7, 3), *forms[1:])),
                     (scale, (forms[0] + y.power(2) * y if lot is BRAID else x * x * x, *forms[1:])), (scale, (0, *forms[1:])),
                     (scale, (x, *forms[1:])), (scale, (x.power(40), *forms[1:])), (scale, (zero,) * len(forms))]
            for paper in (*wrong, *wrong_values()):
                self.assertIs(is_told_by_generators(lot, rows, value, paper), False, paper)
            if scale == 1:
                self.assertIs(is_told_by_generators(lot, rows, value, (True, forms)), False)
            else:
                self.assertIs(is_told_by_generators(lot, rows, value, (1, forms)), False)
        rows = (powers(2), powers(3))
        zero, one = Form(0, 3), read("1")
        self.assertIs(is_told_by_generators(BRAID, rows, powers(2), (1, (zero, one, zero))), True)
        self.assertIs(is_told_by_generators(BRAID, rows, powers(2), (True, (zero, one, zero))), False)
        self.assertIs(is_told_by_generators(BRAID, rows[::-1], powers(2), (1, (zero, one, zero))), False)
        # Products of unlike degrees are none, also where they would add up.
        self.assertIs(is_told_by_generators(BRAID, rows, powers(2), (1, (zero, read("x"), zero))), False)
        self.assertIs(is_told_by_generators(BRAID, rows, powers(2), (1, (zero, one, read("x")))), False)

    def test_errors(self):
        rows = (powers(2), powers(3))
        for value in (*wrong_values(), rows + rows[:1], rows[:1], list(rows), (powers(2), powers(4)), (powers(2), zeros(0)), powers(2)):
            self.assert_raises(InvalidRow, told_by_generators, BRAID, value, None)
            self.assert_raises(InvalidRow, is_told_by_generators, BRAID, value, None, None)
            self.assert_raises(InvalidRow, told_by_generators, BRAID, value, powers(6))
        for value in (*wrong_values(), row("x", "0", "0"), powers(2)[:2], list(powers(2)), powers(2, 5), row("x^6", "0", "0")):
            self.assert_raises(InvalidRow, told_by_generators, BRAID, rows, value)
            self.assert_raises(InvalidRow, is_told_by_generators, BRAID, rows, value, None)
        for degree in (6, 7, 40):
            self.assert_raises(TooMany(5), told_by_generators, BRAID, rows, powers(degree))
            self.assert_raises(TooMany(5), is_told_by_generators, BRAID, rows, powers(degree), None)
        self.check(BRAID, rows, powers(5))

    def test_values_stay(self):
        rows = generators(FIVE)
        texts = [str(form) for one in rows for form in one]
        value = times(rows[0], read("x + z"))
        for call in (lambda: are_generators(FIVE, rows), lambda: told_by_generators(FIVE, rows, value),
                     lambda: is_told_by_generators(FIVE, rows, value, (1, (read("0"),) * 5)), lambda: generator_degrees(FIVE)):
            call()
            self.assertEqual([str(form) for one in rows for form in one], texts)
            self.assertEqual(FIVE, Lot(0, FIVE.lines))


class LeftTest(Checks, unittest.TestCase):
    def test_left(self):
        told = {True: 0, False: 0}
        for lot in free_lots():
            if lot.many == 1:
                continue
            d, e = degrees_of(lot)
            for line in lot.lines:
                found = degrees_left(lot, line)
                self.assertEqual(list(found), sorted(found))
                less = lot.without_line(line)
                if less.many <= 6:
                    self.assert_same(found, generator_degrees(less))
                pair = degrees_without(lot, line)
                told[pair is None] += 1
                if pair is None:
                    s, n = len(lot.points_on(line)), less.many
                    self.assertTrue(s < d + 1 and n - s >= e)
                    self.assertEqual(found, tuple(sorted((d, e, n - s))))
                    if n <= 6:
                        self.assertEqual(relation_degrees(less), (n - s + 1,))
                else:
                    self.assert_same(found, pair)
        self.assertGreater(min(told.values()), 5)

    def test_great_lots(self):
        self.assert_same([degrees_left(CUBES, line) for line in CUBES.lines], [(4, 4, 4)] * 9)
        self.assert_same(degrees_left(all_lines(3), X), (3, 8))
        self.assert_same(degrees_left(Lot(0, PENCIL), X), (0, 11))
        self.assert_same([degrees_left(Lot(0, PENCIL[:12] + (Z,)), line) for line in (X, Z)], [(1, 10), (0, 11)])
        self.assert_same(degrees_left(Lot(0, PENCIL[:2]), PENCIL[0]), (0, 0))

    def test_errors(self):
        for line in (*NO_TRIPLES, (1, 1, 0), (1, 1001, 0)):
            for lot in (BRAID, FIVE, ONE):
                self.assert_raises(InvalidLine, degrees_left, lot, line)
        self.assert_raises(InvalidLine, degrees_left, ONE, Y)
        self.assert_raises(InvalidOperation, degrees_left, ONE, X)
        self.assert_raises(InvalidOperation, degrees_left, Lot(2, (X,)), X)
        for lot in (FIVE, FAN, NONET, SIX):
            self.assert_raises(Refused(("not free",)), degrees_left, lot, lot.lines[0])
        self.assertEqual(outcome(degrees_left, None, None)[0], "InvalidLot")

    def test_free_rows_are_generators(self):
        for lot in free_lots():
            if lot.many <= 6:
                two = free_rows(lot)
                self.assertIs(are_generators(lot, two), True)
                self.assertIs(are_free_rows(lot, generators(lot)), True)


if __name__ == "__main__":
    unittest.main()
