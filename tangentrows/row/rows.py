"""Rows of three forms that are tangent to lots, degree by degree."""

from math import comb

from tangentrows.base.numbers import made_normal, need_between, need_prime, powers_of, settled
from tangentrows.base.tables import is_square, kernel_of, rank_of, spread, undone
from tangentrows.errors import InvalidLine, InvalidRow, InvalidTable, TooMany
from tangentrows.form.products import linear
from tangentrows.form.terms import exponents_of
from tangentrows.form.vectors import are_forms, forms_of, mixed, quotient_of, sum_of_all, times_all
from tangentrows.plane.lines import letters_of
from tangentrows.plane.lots import need_lot

MOST_LINES = 9
MOST_DEGREE = 7
MOST_FAR = 1000


def is_row(prime, value):
    """Whether the value is a row over a prime that was checked."""
    return are_forms(prime, 3, 3, value)


def quotient_at(line, row):
    """What the row is along a line, divided by the linear form of this line; None if the row is not tangent to it."""
    return quotient_of(mixed(row, line), linear(row[0].prime, line))


def is_tangent_row(lot, value):
    """Whether the value is a row that is tangent to a lot that was checked."""
    if not is_row(lot.prime, value):
        return False
    for line in lot.lines:
        if quotient_at(line, value) is None:
            return False
    return True


def need_tangent(lot, row):
    """Raise the error for a row that is not tangent to a lot that was checked."""
    if not is_tangent_row(lot, row):
        raise InvalidRow("no row that is tangent to the lot")


def need_few_lines(lot, most):
    """Raise the error for a lot that has more lines than so many."""
    if lot.many > most:
        raise TooMany(most)


def need_line_of(lot, line):
    """Raise the error for a line that is none of the lot."""
    if line not in lot:
        raise InvalidLine("no line of the lot")


def need_row_table(prime, table):
    """Raise the error for a table that is not of three rows of three numbers."""
    if not is_square(prime, table, 3, 3):
        raise InvalidTable("no table of three rows of three numbers")


def without_plain(row, form):
    """The row less the form times the plain row."""
    return sum_of_all(row, times_all(plain_row(row[0].prime), -form))


def plain_row(prime):
    """The plain row; the linear forms raise the error for a prime that is none."""
    return linear(prime, (1, 0, 0)), linear(prime, (0, 1, 0)), linear(prime, (0, 0, 1))


def count_terms(degree):
    """How many terms a form in three letters of the degree can have."""
    return (degree + 1) * (degree + 2) // 2 if degree >= 0 else 0


def line_rows(prime, line, degree, order=0):
    """Rows that send the numbers of a form in three letters of the degree to what stands beside a power of a line.

    The kept letters become the number of the line at the letter that it leaves out, times x and y; the left out letter
    becomes the form of the line, and the negative of the numbers at the kept ones, times x and y. Beside the power 0
    of the line, the order that is told if none is passed, stands what the form becomes on the line.
    """
    one, other, out = letters_of(line)
    scale = powers_of(prime, line[out], degree)
    left, right = powers_of(prime, -line[one], degree), powers_of(prime, -line[other], degree)
    places = exponents_of(3, degree)
    found = [[0] * len(places) for _ in range(degree - order + 1)]
    for column, place in enumerate(places):
        high = place[out] - order
        times = scale[degree - place[out]] * comb(place[out], order)
        for part in range(high + 1):
            number = times * comb(high, part) * left[part] * right[high - part]
            found[degree - order - place[one] - part][column] = settled(prime, number)
    return found


def tangent_conditions(prime, lines, weights, degree):
    """Rows that send the numbers of some forms to zeros just if their sums are 0 on some lines.

    For each line the weights tell the factors of the forms in the sum.
    """
    found = []
    for line, factors in zip(lines, weights):
        for row in line_rows(prime, line, degree):
            found.append(spread(prime, row, factors))
    return found


def killing_conditions(lot, line, degree):
    """Rows for the two forms at the kept letters of a row that kills a line of a lot, over the number left out."""
    prime = lot.prime
    one, other, out = letters_of(line)
    lines = [further for further in lot.lines if further != line]
    weights = []
    for further in lines:
        left = line[out] * further[one] - further[out] * line[one]
        right = line[out] * further[other] - further[out] * line[other]
        weights.append((settled(prime, left), settled(prime, right)))
    return tangent_conditions(prime, lines, weights, degree)


def killing_base(lot, line, degree):
    """The base of the tangent rows of a degree that kill a line of a lot, all of which were checked."""
    prime = lot.prime
    one, other, out = letters_of(line)
    size = count_terms(degree)
    found = []
    for numbers in kernel_of(prime, killing_conditions(lot, line, degree), 2 * size):
        left, right = numbers[:size], numbers[size:]
        parts = [(), (), ()]
        parts[one] = tuple([line[out] * number for number in left])
        parts[other] = tuple([line[out] * number for number in right])
        parts[out] = tuple([-line[one] * here - line[other] * there for here, there in zip(left, right)])
        whole = [settled(prime, number) for number in parts[0] + parts[1] + parts[2]]
        # Where the left out letter is, no row of the echelon begins; so this is an echelon, too.
        found.append(forms_of(prime, 3, degree, made_normal(prime, whole)))
    return tuple(found)


def far_number(lot, degree):
    """The number E by its formula, for great degrees."""
    fewer = lot.many - 1
    return (degree + 1) * (degree + 2) + fewer * (fewer - 2 * degree - 3) // 2 - lot.rest


def killing_number(lot, degree):
    """The number E of a lot and a degree, both of which were checked."""
    if degree >= lot.many - 2:
        return far_number(lot, degree)
    return 2 * count_terms(degree) - rank_of(lot.prime, killing_conditions(lot, lot.lines[0], degree))


def plain(prime):
    """The plain row."""
    return plain_row(prime)


def is_tangent(lot, value):
    """Whether the value is a row that is tangent to the lot."""
    need_lot(lot)
    return is_tangent_row(lot, value)


def count_killing(lot, degree):
    """The number E of the degree."""
    need_lot(lot)
    need_between(degree, 0, MOST_DEGREE)
    need_few_lines(lot, MOST_LINES)
    return killing_number(lot, degree)


def count_rows(lot, degree):
    """How many rows the base of the tangent rows of this degree has."""
    return count_killing(lot, degree) + degree * (degree + 1) // 2


def rows_of(lot, degree):
    """The base of the tangent rows of this degree."""
    need_lot(lot)
    need_between(degree, 0, MOST_DEGREE)
    need_few_lines(lot, MOST_LINES)
    prime = lot.prime
    conditions = tangent_conditions(prime, lot.lines, lot.lines, degree)
    kernel = kernel_of(prime, conditions, 3 * count_terms(degree))
    return tuple([forms_of(prime, 3, degree, numbers) for numbers in kernel])


def killing_rows(lot, line, degree):
    """The base of the tangent rows of this degree that kill a line of the lot."""
    need_lot(lot)
    need_line_of(lot, line)
    need_between(degree, 0, MOST_DEGREE)
    need_few_lines(lot, MOST_LINES)
    return killing_base(lot, line, degree)


def parted(lot, line, row):
    """The pair of a form and of a row that kills a line of the lot, for a tangent row."""
    need_lot(lot)
    need_line_of(lot, line)
    need_tangent(lot, row)
    form = quotient_at(line, row)
    return form, without_plain(row, form)


def led_row(prime, row, table):
    """The row to which a table leads a row."""
    need_prime(prime)
    if not is_row(prime, row):
        raise InvalidRow("no row over the prime")
    need_row_table(prime, table)
    images = tuple([mixed(plain_row(prime), numbers) for numbers in undone(prime, table)])
    values = [form.led(images) for form in row]
    return tuple([mixed(values, numbers) for numbers in table])


def least_degree(lot):
    """The least degree of a tangent row that kills a line of the lot."""
    need_lot(lot)
    need_few_lines(lot, MOST_LINES)
    degree = 0
    while killing_number(lot, degree) == 0:
        degree = degree + 1
    return degree


def far_count(lot, degree):
    """The number E of a great degree, by its formula."""
    need_lot(lot)
    need_between(degree, max(0, lot.many - 2), MOST_FAR)
    return far_number(lot, degree)


def each_count(lot):
    """The numbers E of all degrees up to the number of the lines less 2."""
    need_lot(lot)
    need_few_lines(lot, MOST_LINES)
    for degree in range(max(1, lot.many - 1)):
        yield killing_number(lot, degree)
