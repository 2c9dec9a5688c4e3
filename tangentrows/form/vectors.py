"""Tuples of forms of one degree: their numbers, sums and quotients. The numbers can have any size."""

from tangentrows.base.numbers import divisor_of, inverse_of
from tangentrows.form.forms import degree_of_all, is_form, made
from tangentrows.form.terms import added, divided, exponents_of, scaled


def are_forms(prime, letters, many, value):
    """Whether the value is a tuple of so many forms over the prime, of which those other than zero have one degree."""
    if not isinstance(value, tuple) or len(value) != many:
        return False
    return all([is_form(prime, letters, form) for form in value]) and degree_of_all(value) is not None


def numbers_of(letters, degree, forms):
    """The numbers of forms of the degree, or zero, at all exponents, descending, one form behind the other."""
    places = exponents_of(letters, degree)
    found = []
    for form in forms:
        table = form.table
        found.extend([table.get(place, 0) for place in places])
    return found


def forms_of(prime, letters, degree, numbers):
    """The tuple of the forms of the degree with these numbers, one form behind the other."""
    places = exponents_of(letters, degree)
    size = len(places)
    found = []
    for start in range(0, len(numbers), size):
        part = numbers[start:start + size]
        table = {place: number for place, number in zip(places, part) if number != 0}
        found.append(made(prime, letters, table))
    return tuple(found)


def mixed(forms, numbers):
    """The sum of the forms, each multiplied by its number."""
    prime, letters = forms[0].prime, forms[0].letters
    total = {}
    for form, number in zip(forms, numbers):
        total = added(prime, total, scaled(prime, form.table, number))
    return made(prime, letters, total)


def times_all(forms, factor):
    """The tuple of the forms, each multiplied by a form or a number."""
    return tuple([form * factor for form in forms])


def sum_of_all(one, other):
    """The tuple of the sums of the forms of two tuples."""
    return tuple([here + there for here, there in zip(one, other)])


def determinant_of_pairs(one, other):
    """The determinant of two pairs of forms whose products have one degree."""
    return one[0] * other[1] - other[0] * one[1]


def quotient_of(form, other, many=1):
    """What is left of the form if it is divided by the other one so many times; None if this is not possible."""
    table, step = form.table, other.table
    for _ in range(many):
        table = divided(form.prime, table, step)
        if table is None:
            return None
    return made(form.prime, form.letters, table)


def told_with_scale(prime, number, forms):
    """The pair of the forms, divided by a number other than 0, and of the least scale that makes them integers.

    The forms come multiplied by this scale, which is 1 over other primes than 0.
    """
    if prime:
        times = inverse_of(prime, number)
        return tuple([form * times for form in forms]), 1
    parts = [part for form in forms for part in form.table.values()]
    shared = divisor_of([number, *parts])
    if number < 0:
        shared = -shared
    less = []
    for form in forms:
        table = {place: part // shared for place, part in form.table.items()}
        less.append(made(prime, form.letters, table))
    return tuple(less), number // shared
