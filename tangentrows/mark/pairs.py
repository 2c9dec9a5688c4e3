"""Pairs of forms in x and y that are tangent to marks."""

from math import comb

from tangentrows.base.numbers import need_between, powers_of, settled
from tangentrows.base.tables import kernel_of, rank_of, spread
from tangentrows.errors import InvalidPair, TooMany
from tangentrows.form.forms import degree_of_all
from tangentrows.form.products import linear
from tangentrows.form.vectors import are_forms, determinant_of_pairs, forms_of, mixed, quotient_of, told_with_scale
from tangentrows.mark.marks import need_marks

MAX_DEGREE = 24
MOST_TOLD = 16


def order_rows(prime, spot, count, degree):
    """Rows that send the numbers of a form in x and y of the degree to zeros just if it has the spot so often.

    The form is read at x = b + t and y = -a, at the end at x = 1 and y = t: there the numbers of low powers of t are 0.
    """
    a, b = spot
    ahead, behind = powers_of(prime, b, degree), powers_of(prime, -a, degree)
    found = []
    for low in range(min(count, degree + 1)):
        row = [0] * (degree + 1)
        if a == 0:
            row[low] = 1
        else:
            for at in range(degree - low + 1):
                number = comb(degree - at, low) * ahead[degree - at - low] * behind[at]
                row[at] = settled(prime, number)
        found.append(row)
    return found


def pair_rows(marks, degree):
    """Rows that send the numbers of a pair of the degree to zeros just if it is tangent to the marks."""
    prime = marks.prime
    found = []
    for spot, count in marks.counts.items():
        for row in order_rows(prime, spot, count, degree):
            found.append(spread(prime, row, spot))
    return found


def base_of(marks, degree):
    """The base of the tangent pairs of a degree that is not too great."""
    prime = marks.prime
    kernel = kernel_of(prime, pair_rows(marks, degree), 2 * degree + 2)
    return tuple([forms_of(prime, 2, degree, numbers) for numbers in kernel])


def is_tangent_pair(marks, value):
    """Whether the value is a pair that is tangent to marks that were checked."""
    prime = marks.prime
    if not are_forms(prime, 2, 2, value):
        return False
    for spot, count in marks.counts.items():
        if quotient_of(mixed(value, spot), linear(prime, spot), count) is None:
            return False
    return True


def are_two_of(marks, value):
    """Whether the value is a tuple of two tangent pairs that tell all others, for marks that were checked."""
    if not isinstance(value, tuple) or len(value) != 2 or not all([is_tangent_pair(marks, pair) for pair in value]):
        return False
    sizes = [degree_of_all(pair) for pair in value]
    # With this sum of degrees the determinant is a number, times the product of the marks.
    return sum(sizes) == marks.total and bool(determinant_of_pairs(value[0], value[1]))


def counted_in(low, high, degree):
    """How many pairs of the degree are free of one another, where two pairs of these degrees tell all others."""
    return max(0, degree - low + 1) + max(0, degree - high + 1)


def apart_from(first, pairs):
    """The first one of some pairs whose determinant with a pair is not zero."""
    return [pair for pair in pairs if determinant_of_pairs(first, pair)][0]


def degrees_of_marks(marks):
    """The degrees of marks that were checked."""
    # Below half of the total only multiples of the pair of the lesser degree are tangent.
    half = marks.total // 2
    low = rank_of(marks.prime, pair_rows(marks, half - 1)) - half
    return low, marks.total - low


def is_pair(marks, value):
    """Whether the value is a tangent pair."""
    need_marks(marks)
    return is_tangent_pair(marks, value)


def count_pairs(marks, degree):
    """How many pairs the base of this degree has."""
    need_marks(marks)
    need_between(degree, 0, MAX_DEGREE)
    low, high = degrees_of_marks(marks)
    return counted_in(low, high, degree)


def pairs_of(marks, degree):
    """The base of the tangent pairs of this degree."""
    need_marks(marks)
    need_between(degree, 0, MAX_DEGREE)
    return base_of(marks, degree)


def degrees(marks):
    """The degrees of the marks, the lesser one first."""
    need_marks(marks)
    return degrees_of_marks(marks)


def two_pairs(marks):
    """Two tangent pairs that tell all others, that of the lesser degree first."""
    need_marks(marks)
    low, high = degrees_of_marks(marks)
    first = base_of(marks, low)[0]
    return first, apart_from(first, base_of(marks, high))


def are_two(marks, value):
    """Whether the value is a tuple of two tangent pairs that tell all others, in either order."""
    need_marks(marks)
    return are_two_of(marks, value)


def told_by(marks, two, pair):
    """The triple (u, v, s) for which s times the pair is u times the first one of two pairs and v times the second."""
    need_marks(marks)
    if not are_two_of(marks, two):
        raise InvalidPair("no two pairs that tell all others")
    if not is_tangent_pair(marks, pair):
        raise InvalidPair("no tangent pair")
    if degree_of_all(pair) > MOST_TOLD:
        raise TooMany(MOST_TOLD)
    first, second = two
    whole = determinant_of_pairs(first, second)
    product = whole.cleared()
    number = whole.over(product)[(0, 0)]
    parts = [determinant_of_pairs(pair, second).over(product), determinant_of_pairs(first, pair).over(product)]
    (u, v), scale = told_with_scale(marks.prime, number, parts)
    return u, v, scale
