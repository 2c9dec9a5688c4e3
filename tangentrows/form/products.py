"""Linear forms, products and determinants of forms."""

from tangentrows.base.numbers import all_fit, need_prime
from tangentrows.errors import InvalidForm, InvalidOperation, TooMany
from tangentrows.form.forms import MAX_DEGREE, Form, degree_of_all, is_form, need_alike, need_form, need_letters
from tangentrows.form.terms import unit


def linear(prime, numbers):
    """The linear form with these numbers of its letters."""
    need_prime(prime)
    if not all_fit(prime, numbers, 2) and not all_fit(prime, numbers, 3):
        raise InvalidOperation("no tuple of two or three numbers")
    if not any(numbers):
        raise InvalidOperation("no number other than 0")
    letters = len(numbers)
    table = {}
    for place, number in enumerate(numbers):
        if number != 0:
            table[tuple([1 if at == place else 0 for at in range(letters)])] = number
    return Form(prime, letters, table)


def product_of(prime, letters, forms):
    """The product of a tuple of forms."""
    need_prime(prime)
    need_letters(letters)
    if not isinstance(forms, tuple) or not all([is_form(prime, letters, form) for form in forms]):
        raise InvalidForm("no tuple of forms over the prime in so many letters")
    # A zero behind great forms would come too late: their product alone is refused.
    if not all([bool(form) for form in forms]):
        return Form(prime, letters)
    whole = Form(prime, letters, unit(letters))
    for form in forms:
        whole = whole * form
    return whole


def is_square_of_forms(value):
    """Whether the value is a table of two rows of two forms, or of three rows of three, all of them alike."""
    if not isinstance(value, tuple) or len(value) not in (2, 3):
        return False
    if not all([isinstance(row, tuple) and len(row) == len(value) for row in value]):
        return False
    first = value[0][0]
    if not isinstance(first, Form):
        return False
    return all([is_form(first.prime, first.letters, form) for row in value for form in row])


def cross(rows, left, right):
    """The determinant of two columns of the last two rows."""
    upper, lower = rows[-2], rows[-1]
    return upper[left] * lower[right] - upper[right] * lower[left]


def determinant_of(rows):
    """The determinant of a table of forms."""
    if not is_square_of_forms(rows):
        raise InvalidForm("no table of two or three rows of forms")
    degrees = [degree_of_all(row) for row in rows]
    if not all([degree is not None for degree in degrees]):
        raise InvalidOperation("a row has unlike degrees")
    if min(degrees) < 0:
        return Form(rows[0][0].prime, rows[0][0].letters)
    if sum(degrees) > MAX_DEGREE:
        raise TooMany(MAX_DEGREE)
    if len(rows) == 2:
        return cross(rows, 0, 1)
    first, second, third = rows[0]
    return first * cross(rows, 1, 2) - second * cross(rows, 0, 2) + third * cross(rows, 0, 1)


def is_multiple(one, other):
    """Whether one form is the other one, multiplied by a number other than 0."""
    need_form(one)
    need_form(other)
    need_alike(one, other)
    return one.cleared() == other.cleared()
