"""Lots whose lines count more than once: their tangent rows, and marks at points and on lines."""

from tangentrows.base.numbers import is_integer, made_normal, need_between
from tangentrows.base.tables import kernel_of, rank_of, spread
from tangentrows.errors import InvalidOperation, TooMany
from tangentrows.form.forms import degree_of_all
from tangentrows.form.products import determinant_of, linear
from tangentrows.form.vectors import forms_of, mixed, quotient_of
from tangentrows.mark.marks import Marks
from tangentrows.mark.pairs import degrees_of_marks
from tangentrows.plane.lines import letters_of, lies_on, need_line, need_point
from tangentrows.plane.lots import need_lot
from tangentrows.press.lines import spot_in
from tangentrows.row.generators import fresh_rows
from tangentrows.row.rows import count_terms, is_row, line_rows, need_few_lines

MAX_LINES = 6
MAX_TOTAL = 10
MAX_DEGREE = 4
MAX_ENTRY = 20
MOST_COUNT = 3


def are_counts(lot, value):
    """Whether the value are counts of a lot that was checked."""
    if not isinstance(value, dict) or len(value) != lot.many or not all([line in lot for line in value]):
        return False
    if not all([is_integer(count) and 1 <= count <= MOST_COUNT for count in value.values()]):
        return False
    return sum(value.values()) <= MAX_TOTAL


def need_counts(lot, counts):
    """Raise the errors for a value that is no lot, and for a value that are no counts of it."""
    need_lot(lot)
    if not are_counts(lot, counts):
        raise InvalidOperation("no counts of the lot")


def need_few_and_small(lot):
    """Raise the errors for a lot that has too many lines, or too great numbers of them."""
    need_few_lines(lot, MAX_LINES)
    # Over primes other than 0 no number is so great.
    if max([abs(number) for line in lot.lines for number in line]) > MAX_ENTRY:
        raise TooMany(MAX_ENTRY)


def need_counted_line(lot, counts, line):
    """Raise all errors of the calls for a lot, its counts and a line of it."""
    need_counts(lot, counts)
    need_line(lot.prime, line)
    if line not in lot:
        raise InvalidOperation("the line is not in the lot")
    need_few_and_small(lot)


def is_counted_in(lot, counts, value):
    """Whether the value is a row that is tangent to a counted lot that was checked."""
    prime = lot.prime
    if not is_row(prime, value):
        return False
    for line, count in counts.items():
        if quotient_of(mixed(value, line), linear(prime, line), count) is None:
            return False
    return True


def counted_conditions(lot, counts, degree):
    """Rows that send the numbers of a row of the degree to zeros just if it is tangent to a counted lot."""
    prime = lot.prime
    found = []
    for line, count in counts.items():
        for order in range(count):
            found.extend([spread(prime, row, line) for row in line_rows(prime, line, degree, order)])
    return found


def counted_base(lot, counts, degree):
    """The base of the rows of a degree that are tangent to a counted lot that was checked."""
    kernel = kernel_of(lot.prime, counted_conditions(lot, counts, degree), 3 * count_terms(degree))
    return tuple([forms_of(lot.prime, 3, degree, numbers) for numbers in kernel])


def are_counted_in(lot, counts, value):
    """Whether the value is a tuple of three rows that show that a counted lot, which was checked, is free."""
    if not isinstance(value, tuple) or len(value) != 3 or not all([is_counted_in(lot, counts, row) for row in value]):
        return False
    # With this sum of degrees the determinant is a number, times the counted product.
    return sum([degree_of_all(row) for row in value]) == sum(counts.values()) and bool(determinant_of(value))


def local_in(lot, counts, point):
    """The local marks at a point of the plane, for a counted lot and a point that were checked."""
    found = {}
    for line, count in counts.items():
        if lies_on(lot.prime, point, line):
            found[local_spot(lot.prime, point, line)] = count
    return Marks(lot.prime, found)


def local_spot(prime, point, line):
    """The spot at a point of a line through it, both of which were checked."""
    one, other, _ = letters_of(point)
    return made_normal(prime, (line[one], line[other]))


def euler_count(lot, counts, line, point):
    """That of the local degrees at a point which stays if a line through it counts once less; all were checked."""
    marks = local_in(lot, counts, point)
    low, high = degrees_of_marks(marks)
    less = degrees_of_marks(marks.lowered(local_spot(lot.prime, point, line)))
    return low if less[0] == low else high


def is_counted_row(lot, counts, value):
    """Whether the value is a row that is tangent to the counted lot."""
    need_counts(lot, counts)
    need_few_and_small(lot)
    return is_counted_in(lot, counts, value)


def count_counted(lot, counts, degree):
    """How many tangent rows of the degree are free of one another."""
    need_counts(lot, counts)
    need_between(degree, 0, MAX_DEGREE)
    need_few_and_small(lot)
    return 3 * count_terms(degree) - rank_of(lot.prime, counted_conditions(lot, counts, degree))


def counted_rows(lot, counts, degree):
    """The base of the tangent rows of the degree."""
    need_counts(lot, counts)
    need_between(degree, 0, MAX_DEGREE)
    need_few_and_small(lot)
    return counted_base(lot, counts, degree)


def are_counted_free(lot, counts, value):
    """Whether the value is a tuple of three rows that show that the counted lot is free."""
    need_counts(lot, counts)
    need_few_and_small(lot)
    return are_counted_in(lot, counts, value)


def counted_paper(lot, counts):
    """Three rows that show that the counted lot is free, or None if it is not, or has a degree above 4."""
    need_counts(lot, counts)
    need_few_and_small(lot)
    found, lower = [], ()
    for degree in range(MAX_DEGREE + 1):
        rows = counted_base(lot, counts, degree)
        # Three rows can tell all others only if no further one is needed.
        found.extend(fresh_rows(lot.prime, lower, rows, degree))
        if len(found) > 3:
            return None
        lower = rows
    paper = tuple(found)
    return paper if are_counted_in(lot, counts, paper) else None


def local_marks(lot, counts, point):
    """The local marks at a point of the plane."""
    need_counts(lot, counts)
    need_point(lot.prime, point)
    need_few_and_small(lot)
    return local_in(lot, counts, point)


def local_degrees(lot, counts, point):
    """The local degrees at a point of the plane, the lesser one first."""
    return degrees_of_marks(local_marks(lot, counts, point))


def sum_of_products(lot, counts):
    """The sum, over the points of the lot, of the products of both local degrees."""
    need_counts(lot, counts)
    need_few_and_small(lot)
    total = 0
    for point in lot.points:
        low, high = degrees_of_marks(local_in(lot, counts, point))
        total = total + low * high
    return total


def lowered_counts(lot, counts, line):
    """The lot and its counts in which a line counts once less, or None if it is the only line and counts 1."""
    need_counted_line(lot, counts, line)
    if counts[line] > 1:
        return lot, {other: counts[other] - 1 if other == line else counts[other] for other in lot.lines}
    if lot.many == 1:
        return None
    less = lot.without_line(line)
    return less, {other: counts[other] for other in less.lines}


def euler_marks(lot, counts, line):
    """The Euler marks on a line of the lot."""
    need_counted_line(lot, counts, line)
    found = {}
    for point in lot.points_on(line):
        found[spot_in(lot.prime, line, point)] = euler_count(lot, counts, line, point)
    return Marks(lot.prime, found)
