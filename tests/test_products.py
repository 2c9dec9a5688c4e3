"""Linear forms, products, determinants and multiples of forms."""

import random
import unittest

from support import Checks, wrong_values
from tangentrows.errors import InvalidForm, InvalidNumber, InvalidOperation, TooMany
from tangentrows.form.forms import Form
from tangentrows.form.products import determinant_of, is_multiple, linear, product_of

GREAT = 10 ** 60 - 1
X, Y = Form.read(0, 2, "x"), Form.read(0, 2, "y")
ZERO = Form(0, 2)
A, B, C = (Form.read(0, 3, name) for name in "xyz")
NIL = Form(0, 3)


class LinearTest(Checks, unittest.TestCase):
    def test_linear(self):
        for prime, numbers, text in ((0, (1, 0), "x"), (0, (-2, 3), "-2x + 3y"), (0, (0, 0, -1), "-z"), (5, (1, 4), "x + 4y"),
                                     (2, (1, 1, 1), "x + y + z"), (0, (0, GREAT), "9" * 60 + "y")):
            form = linear(prime, numbers)
            self.assertEqual([str(form), form.degree, form.letters, form.prime], [text, 1, len(numbers), prime])

    def test_errors(self):
        for prime in wrong_values():
            self.assert_raises(InvalidNumber(prime), linear, prime, None)
        for value in (None, 1, True, "xy", [1, 0], (), (1,), (1, 0, 0, 0), (0, 0), (0, 0, 0), (True, 0), (1, None), {}, (X, Y),
                      (10 ** 60, 1), ((1, 0),)):
            self.assert_raises(InvalidOperation, linear, 0, value)
        for value in ((5, 1), (0, -1), (0, 0)):
            self.assert_raises(InvalidOperation, linear, 5, value)


class ProductTest(Checks, unittest.TestCase):
    def test_products(self):
        self.assertEqual([str(product_of(5, 2, ())), str(product_of(0, 3, ())), product_of(0, 3, ()).letters], ["1", "1", 3])
        self.assertEqual(product_of(0, 2, (X, Y, X + Y)), X * Y * (X + Y))
        self.assertEqual(product_of(0, 2, (X,)), X)
        self.assertEqual(product_of(0, 2, (X,) * 40), X.power(40))
        self.assertEqual(product_of(0, 3, (A + B, NIL, C)), NIL)

    def test_too_many(self):
        self.assert_raises(TooMany(40), product_of, 0, 2, (X,) * 41)
        self.assert_raises(TooMany(40), product_of, 0, 2, (X.power(21), Y.power(20)))
        self.assertEqual(product_of(0, 2, (X,) * 41 + (ZERO,)), ZERO)
        self.assertEqual(product_of(0, 2, (ZERO,) + (X.power(40),) * 3), ZERO)

    def test_errors(self):
        for prime in wrong_values():
            self.assert_raises(InvalidNumber(prime), product_of, prime, 4, None)
        for letters in (None, True, 1, 4, "2", (2,), [], 10 ** 60, X):
            self.assert_raises(InvalidNumber(letters), product_of, 0, letters, None)
        for value in (None, 1, X, [X, Y], "xy", {}, (X, None), (X, 1), ("x",), (A,), (X, A), (Form(5, 2),), (X, Form(5, 2)),
                      (X.power(40), X, A), (ZERO, Form(5, 2)), ((X,),)):
            self.assert_raises(InvalidForm, product_of, 0, 2, value)


class DeterminantTest(Checks, unittest.TestCase):
    def test_values(self):
        source = random.Random(21)
        for prime in (0, 2, 3, 7):
            for size in (2, 3):
                for letters in (2, 3):
                    rows = []
                    for degree in range(size):
                        rows.append(tuple(self.some_form(source, prime, letters, degree + 1) for _ in range(size)))
                    told = determinant_of(tuple(rows))
                    numbers = tuple(source.randint(0, (prime or 9) - 1) for _ in range(letters))
                    table = [[form.at(numbers) for form in row] for row in rows]
                    value = self.plain_determinant(table)
                    self.assert_same(told.at(numbers), value % prime if prime else value)
                    self.assertEqual([told.prime, told.letters], [prime, letters])

    def some_form(self, source, prime, letters, degree):
        whole = Form(prime, letters)
        for _ in range(3):
            numbers = [source.randint(0, prime - 1) if prime else source.randint(-4, 4) for _ in range(letters)]
            if any(numbers):
                whole = whole + linear(prime, tuple(numbers)).power(degree)
        return whole

    def plain_determinant(self, rows):
        if len(rows) == 1:
            return rows[0][0]
        return sum((-1) ** at * rows[0][at] * self.plain_determinant([row[:at] + row[at + 1:] for row in rows[1:]])
                   for at in range(len(rows)))

    def test_some(self):
        self.assertEqual(str(determinant_of(((X, Y), (Y, X)))), "x^2 - y^2")
        self.assertEqual(determinant_of(((X, Y), (X * X, X * Y))), ZERO)
        one, two = Form.read(0, 2, "1"), Form.read(0, 2, "2")
        self.assertEqual(str(determinant_of(((one, two), (Y, X)))), "x - 2y")
        self.assertEqual(str(determinant_of(((one, two), (two, one)))), "-3")
        self.assertEqual(determinant_of(((A, NIL, NIL), (NIL, B * B, NIL), (A, B, C))), A * B * B * C)
        self.assertEqual(determinant_of(((A, B, C), (A, B, C), (A, A, A))), NIL)

    def test_the_greatest_degree(self):
        great = X.power(20)
        self.assertEqual(determinant_of(((great, ZERO), (ZERO, great))), X.power(40))
        self.assert_raises(TooMany(40), determinant_of, ((great, ZERO), (ZERO, great * X)))
        self.assert_raises(TooMany(40), determinant_of, ((great, great), (great * X, great * X)))
        self.assertEqual(determinant_of(((X.power(40), ZERO), (ZERO, ZERO))), ZERO)
        high = A.power(40)
        self.assertEqual(determinant_of(((high, high, NIL), (high, NIL, high), (NIL, NIL, NIL))), NIL)
        self.assertEqual(determinant_of(((NIL, NIL, NIL), (high, NIL, high), (high, A.power(40), NIL))), NIL)
        self.assert_raises(TooMany(40), determinant_of, ((high, NIL, NIL), (NIL, B, NIL), (NIL, B, NIL)))

    def test_errors(self):
        for value in (None, 1, X, "xy", {}, (), (X, Y), ((X,),), ((X, Y),), ((X, Y), (X,)), [(X, Y), (Y, X)], ([X, Y], [Y, X]),
                      ((X, Y), [Y, X]), ((X, Y), (Y, 1)), ((X, Y), (Y, None)), ((1, X), (X, Y)), ((A, B, C), (A, B, C)),
                      ((X, Y), (Y, A)), ((X, Y), (Y, Form(5, 2))), ((A, B, C), (A, B, C), (A, B, X)), ((X, Y), (Y, Form(0, 3))),
                      ((X, X * X), (Y, None)), ((A, B), (B, A), (A, A)), tuple((A,) * 4 for _ in range(4))):
            self.assert_raises(InvalidForm, determinant_of, value)
        for value in (((X, X * X), (X, Y)), ((X, Y), (X, Form.read(0, 2, "1"))), ((X.power(40), ZERO), (X, Y * Y)),
                      ((A, B, NIL), (NIL, A, B * B), (NIL, NIL, NIL))):
            self.assert_raises(InvalidOperation, determinant_of, value)


class MultipleTest(Checks, unittest.TestCase):
    def test_multiples(self):
        form = X * X * 2 - Y * Y * 4
        for one, other, told in ((form, form, True), (form, X * X - Y * Y * 2, True), (-form, form, True), (form * 3, form * 5, True),
                                 (form, X * X * 2 + Y * Y * 4, False), (form, X * X, False), (X, Y, False), (X, X * X, False),
                                 (ZERO, ZERO, True), (ZERO, X, False), (X, ZERO, False), (form * GREAT * GREAT, form, True)):
            self.assertIs(is_multiple(one, other), told)
            self.assertIs(is_multiple(other, one), told)
        five = Form.read(5, 2, "x + 2y")
        self.assertIs(is_multiple(five, five * 3), True)
        self.assertIs(is_multiple(five, Form.read(5, 2, "x + 3y")), False)

    def test_errors(self):
        for value in wrong_values():
            if not isinstance(value, Form):
                self.assert_raises(InvalidForm, is_multiple, value, X)
                self.assert_raises(InvalidForm, is_multiple, X, value)
        for other in (A, NIL, Form(5, 2), Form.read(5, 2, "x")):
            self.assert_raises(InvalidForm, is_multiple, X, other)
            self.assert_raises(InvalidForm, is_multiple, ZERO, other)


if __name__ == "__main__":
    unittest.main()
