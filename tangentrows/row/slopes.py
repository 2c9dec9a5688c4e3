"""The slopes of the product of a lot, and the relations between them."""

from tangentrows.base.numbers import need_between, settled
from tangentrows.base.tables import rank_of
from tangentrows.errors import InvalidForm, InvalidOperation, InvalidRow
from tangentrows.form.forms import LETTERS, degree_of_all, is_form
from tangentrows.form.terms import added, exponents_of, multiplied
from tangentrows.form.vectors import mixed, sum_of_all, times_all
from tangentrows.plane.lots import need_lot
from tangentrows.row.rows import count_terms, is_row, killing_number, need_few_lines, need_tangent, plain_row
from tangentrows.row.rows import quotient_at, without_plain

MAX_LINES = 7
MAX_RELATION = 4
MAX_LEFT = 40


def need_undivided(lot):
    """Raise the error for a lot whose prime divides the number of its lines."""
    if settled(lot.prime, lot.many) == 0:
        raise InvalidOperation("the prime of the lot divides the number of its lines")


def slopes_of(lot):
    """The slopes of the product of a lot that was checked."""
    product = lot.product
    return tuple([product.slope(name) for name in LETTERS])


def is_relation_of(lot, value):
    """Whether the value is a relation of a lot that was checked."""
    prime = lot.prime
    if not is_row(prime, value):
        return False
    total = {}
    # The products can have greater degrees than forms have, so the tables are multiplied.
    for form, slope in zip(value, slopes_of(lot)):
        total = added(prime, total, multiplied(prime, 3, form.table, slope.table))
    return not total


def sum_at_lines(lot, row):
    """The factor of a tangent row, both of which were checked."""
    quotients = [quotient_at(line, row) for line in lot.lines]
    return mixed(quotients, [1] * lot.many)


def relation_columns(lot, degree):
    """For each number of a row of the degree the terms of what this number, put 1, makes of the slopes."""
    shapes = [slope.table for slope in slopes_of(lot)]
    places = exponents_of(3, degree)
    return [multiplied(lot.prime, 3, {place: 1}, shape) for shape in shapes for place in places]


def slopes(lot):
    """The slopes of the product of the lot, by x, y and z."""
    need_lot(lot)
    return slopes_of(lot)


def is_relation(lot, value):
    """Whether the value is a relation of the lot."""
    need_lot(lot)
    return is_relation_of(lot, value)


def factor_of(lot, row):
    """The factor of a tangent row."""
    need_lot(lot)
    need_tangent(lot, row)
    return sum_at_lines(lot, row)


def relation_of(lot, row):
    """The relation that a tangent row, times the number of the lines, is but for a multiple of the plain row."""
    need_lot(lot)
    need_tangent(lot, row)
    need_undivided(lot)
    return without_plain(times_all(row, settled(lot.prime, lot.many)), sum_at_lines(lot, row))


def row_with(lot, factor, relation):
    """The tangent row that is a form times the plain row, and a relation, added up."""
    need_lot(lot)
    if not is_form(lot.prime, 3, factor):
        raise InvalidForm("no form in three letters over the prime of the lot")
    if not is_relation_of(lot, relation):
        raise InvalidRow("no relation of the lot")
    degree = degree_of_all(relation)
    if factor and degree >= 0 and degree != factor.degree + 1:
        raise InvalidOperation("the degree of the relation is not 1 more than that of the factor")
    # The product raises the error for a factor of the degree 40.
    return sum_of_all(times_all(plain_row(lot.prime), factor), relation)


def count_relations(lot, degree):
    """How many relations of the degree are free of one another."""
    need_lot(lot)
    need_between(degree, 0, MAX_RELATION)
    need_few_lines(lot, MAX_LINES)
    columns = relation_columns(lot, degree)
    places = exponents_of(3, degree + lot.many - 1)
    rows = [[column.get(place, 0) for place in places] for column in columns]
    return len(rows) - rank_of(lot.prime, rows)


def count_left(lot, degree):
    """How many forms of the degree are apart from the slopes."""
    need_lot(lot)
    need_between(degree, 0, MAX_LEFT)
    need_undivided(lot)
    need_few_lines(lot, MAX_LINES)
    less = degree - lot.many + 1
    left = count_terms(degree) - 3 * count_terms(less)
    # The prime does not divide the number of the lines, so there are as many relations as rows that kill a line.
    return left + killing_number(lot, less) if less >= 0 else left
