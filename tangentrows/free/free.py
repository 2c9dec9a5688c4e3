"""Free lots, and the rows that tell all their tangent rows."""

from tangentrows.errors import InvalidOperation, InvalidRow, Refused, TooMany
from tangentrows.form.forms import MAX_DEGREE, degree_of_all, is_form, made
from tangentrows.form.products import determinant_of
from tangentrows.form.vectors import sum_of_all, times_all, told_with_scale
from tangentrows.plane.lots import need_lot
from tangentrows.plane.primes import reduced
from tangentrows.press.pairs import degrees_in
from tangentrows.row.rows import is_row, is_tangent_row, killing_base, need_few_lines, plain_row, quotient_at

MOST_LINES = 7


def found_degrees(lot):
    """The degrees of a lot that was checked, or None if it is not free."""
    # One line tells it: the product of the pressed degrees is the rest on all lines or on none.
    low, high = degrees_in(lot, lot.lines[0])
    return (low, high) if low * high == lot.rest else None


def determinant_with_plain(lot, one, other):
    """The determinant of the plain row and of two other ones."""
    return determinant_of((plain_row(lot.prime), one, other))


def are_free_in(lot, value):
    """Whether the value is a tuple of two free rows of a lot that was checked."""
    if not isinstance(value, tuple) or len(value) != 2 or not all([is_tangent_row(lot, row) for row in value]):
        return False
    sizes = [degree_of_all(row) for row in value]
    # With this sum of degrees the determinant is a number, times the product of the lines.
    return sum(sizes) == lot.many - 1 and bool(determinant_with_plain(lot, value[0], value[1]))


def need_free_rows(lot, two):
    """Raise the errors for a value that is no lot, and for a value that is no tuple of two free rows of it."""
    need_lot(lot)
    if not are_free_in(lot, two):
        raise InvalidOperation("no two free rows of the lot")


def number_in(lot, two):
    """The number of free rows that were checked."""
    return determinant_with_plain(lot, two[0], two[1]).over(lot.product)[(0, 0, 0)]


def is_free(lot):
    """Whether the lot is free."""
    need_lot(lot)
    return found_degrees(lot) is not None


def degrees_of(lot):
    """The degrees of the lot, the lesser one first, or None if it is not free."""
    need_lot(lot)
    return found_degrees(lot)


def free_rows(lot):
    """Two free rows, that of the lesser degree first."""
    need_lot(lot)
    need_few_lines(lot, MOST_LINES)
    pair = found_degrees(lot)
    if pair is None:
        raise Refused(("not free",))
    low, high = pair
    line = lot.lines[0]
    first = killing_base(lot, line, low)[0]
    others = [row for row in killing_base(lot, line, high) if determinant_with_plain(lot, first, row)]
    return first, others[0]


def are_free_rows(lot, value):
    """Whether the value is a tuple of two free rows of the lot, in either order."""
    need_lot(lot)
    return are_free_in(lot, value)


def number_of_rows(lot, two):
    """The number of two free rows."""
    need_free_rows(lot, two)
    return number_in(lot, two)


def told_by_rows(lot, two, row):
    """The forms and the scale by which the plain row and two free rows tell a row."""
    need_free_rows(lot, two)
    if not is_row(lot.prime, row):
        raise InvalidRow("no row over the prime of the lot")
    for line in lot.lines:
        if quotient_at(line, row) is None:
            raise Refused(("line", line))
    if degree_of_all(row) + lot.many > MAX_DEGREE:
        raise TooMany(MAX_DEGREE)
    first, second = two
    plain = plain_row(lot.prime)
    product = lot.product
    tables = ((row, first, second), (plain, row, second), (plain, first, row))
    parts = [determinant_of(rows).over(product) for rows in tables]
    (q, u, v), scale = told_with_scale(lot.prime, number_in(lot, two), parts)
    return q, u, v, scale


def row_made(lot, two, parts):
    """The sum of the plain row and two free rows, each multiplied by a form."""
    need_free_rows(lot, two)
    if not isinstance(parts, tuple) or len(parts) != 3 or not all([is_form(lot.prime, 3, form) for form in parts]):
        raise InvalidOperation("no tuple of three forms in three letters")
    rows = (plain_row(lot.prime), two[0], two[1])
    sizes = [form.degree + degree_of_all(row) for form, row in zip(parts, rows) if form]
    if sizes and min(sizes) != max(sizes):
        raise InvalidOperation("the summands have unlike degrees")
    # The products raise the error for a row of too great a degree.
    first, second, third = [times_all(row, form) for form, row in zip(parts, rows)]
    return sum_of_all(sum_of_all(first, second), third)


def form_modulo(form, prime):
    """A form over 0 with its numbers modulo a prime."""
    table = {place: number % prime for place, number in form.table.items() if number % prime != 0}
    return made(prime, form.letters, table)


def reduced_rows(lot, two, prime):
    """Two free rows of a lot over 0 modulo a prime."""
    need_free_rows(lot, two)
    reduced(lot, prime)
    number = number_in(lot, two)
    if number % prime == 0:
        raise Refused(("number", number))
    return tuple([tuple([form_modulo(form, prime) for form in row]) for row in two])
