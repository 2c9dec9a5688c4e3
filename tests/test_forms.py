"""Forms: [0.10], [2.1] to [2.4], the class Form and monomials."""

import random
import unittest

from support import NOTHING, Checks, outcome, wrong_values
from tangentrows.errors import InvalidForm, InvalidNumber, InvalidOperation, ParseError, Refused, TooMany, UnknownName
from tangentrows.form import forms as module
from tangentrows.form.forms import Form, monomials

GREAT = 10 ** 60 - 1
PRIMES = (0, 2, 3, 5, 19)


def read(text, prime=0, letters=2):
    return Form.read(prime, letters, text)


def some_form(source, prime, letters, degree, much=0.6):
    """A form of the degree, or zero, made without the module's own reckoning."""
    table = {}
    for exponents in plain_monomials(letters, degree):
        number = source.randint(0, prime - 1) if prime else source.randint(-6, 6)
        if number and source.random() < much:
            table[exponents] = number
    return Form(prime, letters, table)


def plain_monomials(letters, degree):
    if letters == 2:
        return [(a, degree - a) for a in range(degree, -1, -1)]
    return [(a, b, degree - a - b) for a in range(degree, -1, -1) for b in range(degree - a, -1, -1)]


def plain_product(prime, one, other):
    table = {}
    for a, x in one.table.items():
        for b, y in other.table.items():
            key = tuple(i + j for i, j in zip(a, b))
            table[key] = table.get(key, 0) + x * y
    table = {key: number % prime if prime else number for key, number in table.items()}
    return {key: number for key, number in table.items() if number}


class MakingTest(Checks, unittest.TestCase):
    def test_constants(self):
        self.assert_same((module.MAX_DEGREE, module.LETTERS), (40, "xyz"))

    def test_properties(self):
        form = Form(7, 3, {(0, 2, 1): 3, (3, 0, 0): 6})
        self.assert_same([form.prime, form.letters, form.degree, len(form), bool(form)], [7, 3, 3, 2, True])
        self.assert_same(list(form.table.items()), [((0, 2, 1), 3), ((3, 0, 0), 6)])
        self.assert_same(list(form), [((3, 0, 0), 6), ((0, 2, 1), 3)])
        for attribute in ("prime", "letters", "degree", "table"):
            with self.assertRaises(AttributeError):
                setattr(form, attribute, None)

    def test_zero(self):
        for form in (Form(5, 2), Form(5, 2, None), Form(5, 2, {}), read("0", 5)):
            self.assert_same([form.degree, form.table, len(form), bool(form), list(form), str(form)],
                             [None, {}, 0, False, [], "0"])
            self.assertEqual(form, Form(5, 2))
        self.assertNotEqual(Form(5, 2), Form(5, 3))
        self.assertNotEqual(Form(5, 2), Form(0, 2))

    def test_degrees(self):
        self.assertEqual(Form(0, 2, {(0, 0): 3}).degree, 0)
        self.assertEqual(Form(0, 2, {(40, 0): 3, (0, 40): GREAT}).degree, 40)
        self.assertEqual(Form(0, 3, {(0, 40, 0): -GREAT}).degree, 40)
        for table in ({(41, 0): 1}, {(20, 21): 1}, {(10 ** 59, 0): 1}):
            self.assert_raises(InvalidForm, Form, 0, 2, table)

    def test_wrong_tables(self):
        for table in (1, True, False, "", "x", (), [], [((1, 0), 1)], ((1, 0), 1), Form(0, 2), {1: 1}, {"xy": 1},
                      {None: 1}, {(1,): 1}, {(1, 0, 0): 1}, {(1, -1): 1}, {(True, 0): 1}, {(1, False): 1}, {(1, "0"): 1},
                      {(1, None): 1}, {(1, (0,)): 1}, {(1, 0): 0}, {(1, 0): True}, {(1, 0): None}, {(1, 0): "1"},
                      {(1, 0): (1,)}, {(1, 0): 10 ** 60}, {(1, 0): -10 ** 60}, {(1, 0): 1, (2, 0): 1},
                      {(1, 0): 1, (0, 0): 1}, {(10 ** 60, 0): 1}, {(): 1}):
            self.assert_raises(InvalidForm, Form, 0, 2, table)
        for number in (0, 5, -1, 6, True):
            self.assert_raises(InvalidForm, Form, 5, 2, {(1, 0): number})
        self.assertEqual(Form(0, 2, {(1, 0): -GREAT})[1, 0], -GREAT)

    def test_the_order_of_errors(self):
        for prime in wrong_values():
            self.assert_raises(InvalidNumber(prime), Form, prime, 4, 1)
            self.assert_raises(InvalidNumber(prime), Form.read, prime, 4, 1)
        for letters in (None, True, 0, 1, 4, -2, "2", (2,), [2], {2: 2}, 10 ** 60 + 2, Form(0, 2)):
            self.assert_raises(InvalidNumber(letters), Form, 5, letters, 1)
            self.assert_raises(InvalidNumber(letters), Form.read, 5, letters, 1)

    def test_no_shared_state(self):
        table = {(1, 0): 2, (0, 1): 3}
        form = Form(0, 2, table)
        table[(1, 0)] = 9
        table[(5, 5)] = 9
        self.assertEqual(str(form), "2x + 3y")
        told = form.table
        told.clear()
        told[(7, 7)] = 1
        self.assertEqual(str(form), "2x + 3y")
        self.assertEqual(form, read("2x + 3y"))
        self.assertEqual(table, {(1, 0): 9, (0, 1): 3, (5, 5): 9})

    def test_the_order_of_a_dict_has_no_effect(self):
        one = Form(0, 2, {(2, 0): 1, (0, 2): 3, (1, 1): 2})
        other = Form(0, 2, {(0, 2): 3, (1, 1): 2, (2, 0): 1})
        self.assertEqual(one, other)
        self.assertEqual([list(one), str(one), list(one.table)], [list(other), str(other), list(other.table)])


class TextTest(Checks, unittest.TestCase):
    def test_texts(self):
        for prime, letters, table, text in (
                (0, 3, {(2, 1, 0): 2, (0, 0, 3): -1}, "2x^2y - z^3"),
                (0, 2, {(0, 0): 1}, "1"), (0, 2, {(0, 0): -1}, "-1"), (0, 2, {(0, 0): -12}, "-12"),
                (0, 2, {(1, 0): -1, (0, 1): 1}, "-x + y"), (0, 2, {(1, 0): -2, (0, 1): -1}, "-2x - y"),
                (5, 3, {(1, 1, 1): 4, (0, 0, 3): 1}, "4xyz + z^3"), (2, 2, {(0, 40): 1}, "y^40"),
                (0, 2, {(10, 2): GREAT}, "9" * 60 + "x^10y^2"), (19, 3, {(0, 0, 0): 18}, "18")):
            form = Form(prime, letters, table)
            self.assertEqual(str(form), text)
            self.assertEqual(Form.read(prime, letters, text), form)
            self.assert_same(Form.read(prime, letters, text).table, form.table)

    def test_all_texts_are_read_again(self):
        source = random.Random(3)
        for prime in PRIMES:
            for letters in (2, 3):
                for degree in (0, 1, 2, 5, 13):
                    form = some_form(source, prime, letters, degree)
                    self.assertEqual(Form.read(prime, letters, str(form)), form)
        whole = Form(0, 3, {exponents: -GREAT for exponents in plain_monomials(3, 40)})
        self.assertEqual(Form.read(0, 3, str(whole)), whole)

    def test_wrong_texts(self):
        for text in ("", " ", "x ", " x", "+x", "-", "--x", "x+y", "x - -y", "x + -y", "x +y", "x  + y", "1x", "-1x", "0x",
                     "x^1", "x^0", "x^02", "x^", "x^-1", "x^2^2", "xx", "yx", "x*y", "2 x", "x2", "02x", "-0", "00", "+0",
                     "0 + x", "x + 0", "x - 0", "x + 1", "x^2 + y", "y + x", "y^2 + x^2", "x + x", "2x + 3x", "x - x",
                     "X", "z", "x^41", "x^20y^21", "x^999", "x^" + "9" * 90, "9" * 61 + "x", "1" + "0" * 60, "x\n", "\tx",
                     "x +", "x + ", "x - ", " + x", "1/2x", "2.0x", "(x)", "x_", "_", "~" * 3000, "x" * 3000, "9" * 3000, "9" * 5000,
                     "x + " * 700, "x^2y - z^3", "-x + -y", "- x"):
            self.assert_raises(ParseError(0), Form.read, 0, 2, text)
        for text in ("-x", "5x", "6", "x - y", "x - 2y", "0x + y", "-1", "x + 5y"):
            self.assert_raises(ParseError(0), Form.read, 5, 2, text)
        for value in wrong_values():
            if value not in ("0", "x"):
                self.assert_raises(ParseError(0), Form.read, 0, 2, value)
        self.assertEqual(Form.read(0, 2, "9" * 60).at((0, 0)), GREAT)

    def test_the_text_of_very_great_numbers(self):
        number = Form(0, 2, {(0, 0): 10 ** 59}).power(40).power(3)
        self.assertEqual(str(number), "1" + "0" * 7080)
        self.assertEqual(str(-number * read("x")), "-1" + "0" * 7080 + "x")


class SumTest(Checks, unittest.TestCase):
    def test_sums(self):
        x, y = read("x"), read("y")
        self.assertEqual([str(x + y), str(x - y), str(y - x), str(x + x), str(x - x), str(-x), str(-(y - x))],
                         ["x + y", "x - y", "-x + y", "2x", "0", "-x", "x - y"])
        one = Form(2, 2, {(1, 0): 1})
        self.assertEqual([str(one + one), str(-one), str(one - one)], ["0", "x", "0"])
        self.assertEqual([str(-Form(5, 2, {(1, 0): 2})), str(Form(5, 2) - Form(5, 2, {(1, 0): 2}))], ["3x", "3x"])

    def test_zero_has_every_degree(self):
        form, zero = read("x^3"), Form(0, 2)
        for told in (form + zero, zero + form, form - zero):
            self.assertEqual(told, form)
        self.assertEqual([zero - form, zero + zero, -zero, zero - zero], [-form, zero, zero, zero])

    def test_values_of_sums(self):
        source = random.Random(4)
        for prime in PRIMES:
            for letters in (2, 3):
                one, other = (some_form(source, prime, letters, 4) for _ in range(2))
                numbers = tuple(source.randint(0, (prime or 9) - 1) for _ in range(letters))
                for told, value in ((one + other, one.at(numbers) + other.at(numbers)),
                                    (one - other, one.at(numbers) - other.at(numbers)), (-one, -one.at(numbers))):
                    self.assert_same(told.at(numbers), value % prime if prime else value)
                    self.assertTrue(all(told.table.values()))
                    self.assertEqual(Form(prime, letters, told.table), told)

    def test_errors(self):
        form = read("x")
        for call in (lambda value: form + value, lambda value: form - value):
            for value in wrong_values():
                if not isinstance(value, Form):
                    self.assertEqual(outcome(call, value), ("TypeError", NOTHING))
            for other in (Form(5, 2), Form(0, 3), Form(0, 3, {(2, 0, 0): 1}), Form(5, 2, {(2, 0): 1})):
                self.assert_raises(InvalidForm, call, other)
            for other in (read("x^2"), read("1"), read("xy - y^2")):
                self.assert_raises(InvalidOperation, call, other)
        self.assertEqual(outcome(lambda: 1 + form), ("TypeError", NOTHING))
        self.assertEqual(str(form), "x")


class ProductTest(Checks, unittest.TestCase):
    def test_products(self):
        source = random.Random(5)
        for prime in PRIMES:
            for letters in (2, 3):
                for degree in (0, 1, 3, 6):
                    one, other = some_form(source, prime, letters, degree), some_form(source, prime, letters, 4)
                    told = one * other
                    self.assertEqual(told.table, plain_product(prime, one, other))
                    self.assertEqual(told, other * one)
                    self.assertEqual(told == Form(prime, letters), not one or not other)
                    self.assertEqual(list(told.table), sorted(told.table))

    def test_multiples(self):
        form = read("2x - 3y")
        self.assertEqual([str(form * 2), str(form * -1), str(form * 0), str(form * GREAT)],
                         ["4x - 6y", "-2x + 3y", "0", str(2 * GREAT) + "x - " + str(3 * GREAT) + "y"])
        self.assertEqual([str(read("2x + y", 5) * 4), str(read("2x + y", 5) * 0)], ["3x + 4y", "0"])

    def test_errors(self):
        form = read("x + y", 5)
        for value in wrong_values():
            if isinstance(value, int) and not isinstance(value, bool):
                if not 0 <= value < 5:
                    self.assert_raises(InvalidNumber(value), lambda: form * value)
            elif not isinstance(value, Form):
                self.assertEqual(outcome(lambda: form * value), ("TypeError", NOTHING))
        for other in (Form(0, 2), Form(5, 3), Form(0, 2, {(40, 0): 1}), Form(5, 3, {(40, 0, 0): 1})):
            self.assert_raises(InvalidForm, lambda: form * other)
        for value in (10 ** 60, -10 ** 60, 10 ** 99):
            self.assert_raises(InvalidNumber(value), lambda: read("x") * value)

    def test_the_greatest_degree(self):
        one, other = read("x^20 + y^20"), read("x^21")
        self.assertEqual((one * read("x^20")).degree, 40)
        self.assert_raises(TooMany(40), lambda: one * other)
        self.assertEqual(Form(0, 2) * read("x^40"), Form(0, 2))
        self.assertEqual(read("x^40") * read("3"), read("3x^40"))
        self.assertEqual(read("x^40") * Form(0, 2), Form(0, 2))
        self.assert_raises(TooMany(40), lambda: read("x^40") * read("y"))

    def test_powers(self):
        source = random.Random(6)
        for prime in PRIMES:
            form = some_form(source, prime, 3, 2, 0.9)
            whole = Form(prime, 3, {(0, 0, 0): 1})
            for many in range(5):
                self.assertEqual(form.power(many), whole)
                whole = whole * form
        self.assertEqual(str(read("x + y").power(3)), "x^3 + 3x^2y + 3xy^2 + y^3")
        self.assertEqual(str(read("x + y", 3).power(3)), "x^3 + y^3")
        self.assertEqual([str(Form(0, 2).power(0)), str(Form(0, 2).power(40)), str(read("2").power(40))],
                         ["1", "0", str(2 ** 40)])
        self.assertEqual(read("x + y").power(40).table[(20, 20)], 137846528820)

    def test_errors_of_powers(self):
        form = read("x^2")
        for many in (-1, 41, True, False, None, "2", (2,), [], {}, 10 ** 60, form):
            self.assert_raises(InvalidNumber(many), form.power, many)
        self.assertEqual(form.power(20).degree, 40)
        for many in (21, 40):
            self.assert_raises(TooMany(40), form.power, many)


class ValueTest(Checks, unittest.TestCase):
    def test_at(self):
        form = read("x^2y + xyz - 3z^3", 0, 3)
        self.assert_same([form.at((1, 2, 3)), form.at((0, 0, 0)), form.at((-2, 1, -1))], [-73, 0, 9])
        self.assert_same(read("x^2 + 2y^2", 3).at((2, 1)), 0)
        self.assert_same([read("4").at((7, 7)), Form(0, 2).at((1, 1)), read("4", 5).at((0, 0))], [4, 0, 4])
        self.assert_same(read("x^40").at((GREAT, 0)), GREAT ** 40)

    def test_errors_of_at(self):
        form = read("x + y", 5)
        for value in (None, 1, "12", [1, 2], (), (1,), (1, 2, 3), (True, 1), (5, 1), (-1, 1), (1, None), (10 ** 60, 1), {}):
            self.assert_raises(InvalidOperation, form.at, value)
        self.assert_raises(InvalidOperation, read("x").at, (10 ** 60, 1))
        self.assert_raises(InvalidOperation, Form(0, 3).at, (1, 2))

    def test_slopes(self):
        form = read("2x^3y + xy^3 - 5y^4")
        self.assertEqual([str(form.slope("x")), str(form.slope("y"))], ["6x^2y + y^3", "2x^3 + 3xy^2 - 20y^3"])
        self.assertEqual(str(read("xyz^2", 0, 3).slope("z")), "2xyz")
        self.assertEqual([str(read("x^3 + x^2y", 3).slope("x")), str(read("7").slope("x"))], ["2xy", "0"])
        self.assertEqual(Form(5, 3).slope("z"), Form(5, 3))

    def test_the_sum_of_the_slopes(self):
        source = random.Random(9)
        for prime in PRIMES:
            for letters in (2, 3):
                for degree in (1, 2, 3, 6):
                    form = some_form(source, prime, letters, degree)
                    total = Form(prime, letters)
                    for at in range(letters):
                        letter = Form(prime, letters, {tuple(int(k == at) for k in range(letters)): 1})
                        total = total + form.slope("xyz"[at]) * letter
                    self.assertEqual(total, form * (degree % prime if prime else degree))

    def test_errors_of_slopes(self):
        for name in ("", "xy", "yz", "X", "w", "x ", None, 0, 1, True, ("x",), ["x"], {"x": 1}, "a\tb\n", Form(0, 2)):
            self.assert_raises(UnknownName(name), read("x", 0, 3).slope, name)
        self.assert_raises(UnknownName("z"), read("x").slope, "z")

    def test_items(self):
        form = read("2x^2y - z^3", 0, 3)
        self.assert_same([form[(2, 1, 0)], form[0, 0, 3], form[(1, 1, 1)], form[(5, 0, 0)], form[(41, 41, 0)]],
                         [2, -1, 0, 0, 0])
        self.assert_same([Form(0, 2)[(0, 0)], form[(GREAT, 0, 0)]], [0, 0])
        for value in (None, 0, 2, "xyz", [2, 1, 0], (), (2, 1), (2, 1, 0, 0), (True, 1, 1), (2, 1, -1), (2, 1, None),
                      (10 ** 60, 0, 0), {}, slice(0, 1), ((2, 1, 0),)):
            self.assert_raises(InvalidOperation, lambda: form[value])

    def test_equality(self):
        form = read("x - y")
        self.assertTrue(form == Form(0, 2, {(0, 1): -1, (1, 0): 1}))
        self.assertFalse(form != Form(0, 2, {(0, 1): -1, (1, 0): 1}))
        for value in [*wrong_values(), read("x + y"), read("x - y", 0, 3), read("x + 4y", 5), "x - y", {(1, 0): 1}]:
            self.assertIs(form == value, False)
            self.assertIs(form != value, True)
        self.assertNotEqual(read("x", 5), read("x", 7))


class LedTest(Checks, unittest.TestCase):
    def test_values_go_along(self):
        source = random.Random(11)
        for prime in PRIMES:
            for letters in (2, 3):
                for inner in (2, 3):
                    form = some_form(source, prime, letters, 4)
                    images = tuple(some_form(source, prime, inner, 3, 0.4) for _ in range(letters))
                    told = form.led(images)
                    self.assertEqual([told.prime, told.letters], [prime, inner])
                    numbers = tuple(source.randint(0, (prime or 9) - 1) for _ in range(inner))
                    self.assertEqual(told.at(numbers), form.at(tuple(image.at(numbers) for image in images)))
                    self.assertIn(told.degree, (None, 12))

    def test_by_powers_and_products(self):
        source = random.Random(12)
        for prime in PRIMES:
            form = some_form(source, prime, 3, 3, 0.9)
            images = tuple(some_form(source, prime, 2, 2, 0.8) for _ in range(3))
            total = Form(prime, 2)
            for (a, b, c), number in form:
                total = total + images[0].power(a) * images[1].power(b) * images[2].power(c) * number
            self.assertEqual(form.led(images), total)

    def test_zeros(self):
        x, zero, two = read("x"), Form(0, 2), Form(0, 3)
        self.assertEqual(read("x^2 + y^2").led((zero, x)), read("x^2"))
        self.assertEqual(read("x^2 + xy").led((zero, x)), zero)
        self.assertEqual(read("x^2 + xy").led((two, two)), two)
        self.assertEqual(read("7").led((two, two)), Form(0, 3, {(0, 0, 0): 7}))
        self.assertEqual(Form(0, 2).led((read("x^40", 0, 3), read("y^40", 0, 3))), two)
        self.assertEqual(Form(0, 3).led((x, x, zero)), zero)

    def test_the_greatest_degree(self):
        self.assertEqual(read("x^2 - y^2").led((read("x^20"), read("y^20"))), read("x^40 - y^40"))
        self.assert_raises(TooMany(40), read("x^2 - y^2").led, (read("x^21"), read("y^21")))
        self.assert_raises(TooMany(40), read("x^40").led, (read("x^40 + y^40"), Form(0, 2)))
        whole = Form(0, 3, {exponents: 1 for exponents in plain_monomials(3, 40)})
        self.assert_raises(TooMany(40), whole.led, (whole, whole, whole))
        self.assert_raises(TooMany(40), read("x^2y + xy^2", 2).led, (read("x^15", 2), read("y^15", 2)))
        self.assertEqual(read("9").led((read("x^40"), read("x^40"))), read("9"))

    def test_zero_is_not_too_great(self):
        great = read("x^21 + 3x^20y")
        self.assertEqual(read("x^2 - y^2").led((great, great)), Form(0, 2))
        self.assertEqual(read("xy").led((great, Form(0, 2))), Form(0, 2))
        images = (read("x^28", 0, 3), read("x^14y^14", 0, 3), read("y^28", 0, 3))
        self.assertEqual(read("xz - y^2", 0, 3).led(images), Form(0, 3))

    def test_errors(self):
        form, x, y = read("x^2 + xy"), read("x"), read("y")
        three = read("x", 0, 3)
        for value in (None, 1, "xy", x, [x, y], (), (x,), (x, y, x), (x, None), (x, 1), ("x", "y"), (x, True), {x.degree: x},
                      (x, three), (three, x), (x, Form(0, 3)), (x, read("x", 5)), (read("x", 5), read("y", 5)),
                      (x, read("y^2")), (read("1"), y), (read("x^40"), y)):
            self.assert_raises(InvalidOperation, form.led, value)
        self.assert_raises(InvalidOperation, read("xyz", 0, 3).led, (x, y))
        self.assert_raises(InvalidOperation, read("x^40", 0, 3).led, (read("x^40"), Form(0, 2), read("x^39")))


class DivisionTest(Checks, unittest.TestCase):
    def test_over(self):
        source = random.Random(13)
        for prime in PRIMES:
            for letters in (2, 3):
                for degree in (0, 1, 4):
                    one, other = some_form(source, prime, letters, 5), some_form(source, prime, letters, degree, 1)
                    if other:
                        self.assertEqual((one * other).over(other), one)
        self.assertEqual(Form(0, 2).over(read("x^40")), Form(0, 2))
        self.assertEqual(read("6x^2").over(read("-3")), read("-2x^2"))
        self.assertEqual(read("3x", 7).over(read("5", 7)), read("2x", 7))

    def test_no_quotient(self):
        for one, other in (("x^2", "2x"), ("x", "y"), ("x^2 + y^2", "x + y"), ("x", "x^2"), ("x^2y", "x^3"), ("3x", "2"),
                           ("x^2 + xy", "x^2"), ("2x^2 + xy", "2x"), ("y^2", "x + y"), ("1", "x")):
            self.assert_raises(Refused(("rest",)), read(one).over, read(other))
        self.assert_raises(Refused(("rest",)), read("x^2 + y^2", 3).over, read("x + y", 3))
        self.assertEqual(read("x^2 + y^2", 2).over(read("x + y", 2)), read("x + y", 2))
        self.assertEqual(read("x^2", 3).over(read("2x", 3)), read("2x", 3))

    def test_great_quotients(self):
        one = read("x + y") * GREAT * GREAT
        self.assertEqual((one * read("x - y")).over(read("x - y")), one)
        self.assertEqual(one.over(read("x + y") * GREAT), Form(0, 2, {(0, 0): GREAT}))

    def test_errors_of_over(self):
        form = read("x^2")
        for call in (form.over, form.order_of):
            for value in wrong_values():
                if not isinstance(value, Form):
                    self.assert_raises(InvalidForm, call, value)
            for other in (Form(5, 2), Form(0, 3), read("x", 5), read("x", 0, 3)):
                self.assert_raises(InvalidForm, call, other)
            self.assert_raises(InvalidOperation, call, Form(0, 2))
        self.assert_raises(InvalidOperation, Form(0, 2).over, Form(0, 2))

    def test_order_of(self):
        x, line = read("x"), read("2x - 4y")
        form = read("x - 2y").power(3) * x * 3
        self.assert_same([form.order_of(line), form.order_of(x), form.order_of(read("y")), form.order_of(read("3x - 6y"))],
                         [3, 1, 0, 3])
        self.assert_same([read("5").order_of(x), Form(0, 2).order_of(x), read("x^40").order_of(x)], [0, None, 40])
        self.assert_same(read("x^2", 0).order_of(read("2x")), 2)
        cube = Form(3, 3, {(3, 0, 0): 1, (0, 3, 0): 1, (0, 0, 3): 2})
        self.assert_same(cube.order_of(Form(3, 3, {(1, 0, 0): 2, (0, 1, 0): 2, (0, 0, 1): 1})), 3)

    def test_errors_of_order_of(self):
        for other in (read("1"), read("x^2"), Form(0, 2)):
            for form in (read("x"), Form(0, 2)):
                self.assert_raises(InvalidOperation, form.order_of, other)
        self.assert_raises(InvalidForm, Form(0, 2).order_of, read("x", 5))

    def test_cleared(self):
        for prime, text, told in ((0, "-2x^2 + 4y^2", "x^2 - 2y^2"), (0, "6y", "y"), (0, "-7", "1"), (5, "3x + y", "x + 2y"),
                                  (0, "0", "0"), (5, "0", "0"), (0, "2x + 3y", "2x + 3y"), (7, "6y^2", "y^2")):
            form = read(text, prime)
            self.assertEqual(str(form.cleared()), told)
            self.assertEqual(str(form), text)
        great = read("x - y") * GREAT * -GREAT
        self.assertEqual(str(great.cleared()), "x - y")


class FurtherTest(Checks, unittest.TestCase):
    def test_forms_never_change(self):
        form, other = read("x^2 - y^2"), read("x + y")
        texts = [str(form), str(other)]
        for call in (lambda: form + form, lambda: form - form, lambda: form * other, lambda: form * 3, lambda: -form,
                     lambda: form.power(2), lambda: form.slope("x"), lambda: form.led((other, other)),
                     lambda: form.over(other), lambda: form.order_of(other), lambda: form.cleared(), lambda: form[1, 1],
                     lambda: form + other, lambda: form.over(read("x")), lambda: list(form)):
            outcome(call)
            self.assertEqual([str(form), str(other)], texts)

    def test_forms_with_greater_integers_can_be_passed(self):
        great = read("x - y") * GREAT * GREAT
        self.assertEqual(great - great, Form(0, 2))
        self.assertEqual((great + great).over(great), read("2"))
        self.assertEqual(read("xy").led((great, read("x"))), great * read("x"))
        self.assert_raises(InvalidForm, Form, 0, 2, great.table)
        self.assert_raises(ParseError(0), Form.read, 0, 2, str(great))

    def test_what_is_not_true(self):
        form = read("x^2y + xy^2", 2)
        self.assertEqual([form.at((a, b)) for a in (0, 1) for b in (0, 1)], [0] * 4)
        self.assertTrue(form)
        cube = read("x^3", 3)
        self.assertEqual([cube.slope("x"), cube.slope("y"), cube.degree], [Form(3, 2), Form(3, 2), 3])
        self.assert_raises(Refused(("rest",)), read("x^2").over, read("2x"))

    def test_monomials(self):
        for letters in (2, 3):
            for degree in (0, 1, 2, 7, 40):
                self.assert_same(list(monomials(letters, degree)), plain_monomials(letters, degree))

    def test_errors_of_monomials(self):
        for letters in (None, True, 1, 4, "2", (2,), [], {}, 10 ** 60):
            made = monomials(letters, 41)
            self.assert_raises(InvalidNumber(letters), next, made)
        for degree in (-1, 41, True, None, "1", (1,), [], {}, 10 ** 60):
            made = monomials(2, degree)
            self.assert_raises(InvalidNumber(degree), next, made)


if __name__ == "__main__":
    unittest.main()
