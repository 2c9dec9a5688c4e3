"""Generators of the tangent rows of a lot, and how they tell other rows.

Each tangent row is a multiple of the plain row and a row that kills the first line of the lot; only the latter counts
here. The own generators of a lot kill this line and have small numbers. Rows are told by them, and they are told back
by generators that are passed: so the numbers of a paper get no longer than those of these generators demand.
"""

from math import lcm

from tangentrows.base.numbers import made_normal
from tangentrows.base.tables import rank_of, start_of, steps_of, told_numbers, without_steps
from tangentrows.errors import InvalidOperation, InvalidRow, TooMany
from tangentrows.form.forms import MAX_DEGREE, Form, degree_of_all, is_form, made
from tangentrows.form.products import linear
from tangentrows.form.terms import exponents_of, unit
from tangentrows.form.vectors import mixed, numbers_of, times_all, told_with_scale
from tangentrows.free.deeds import count_points, degrees_if_free, degrees_less
from tangentrows.plane.lots import need_lot
from tangentrows.row.rows import count_terms, is_tangent_row, killing_base, killing_number, need_few_lines
from tangentrows.row.rows import need_line_of, need_tangent, plain_row, quotient_at, without_plain

MOST_LINES = 6
MOST_TOLD = 5
CONSTANT = (0, 0, 0)


def fresh_rows(prime, lower, base, degree):
    """Those rows of the base of a degree that are no sums of multiples of the lower base and of rows ahead of them."""
    multiples = [times_all(row, letter) for row in lower for letter in plain_row(prime)]
    steps = steps_of(prime, [numbers_of(3, degree, row) for row in multiples])
    found = []
    for row in base:
        rest = without_steps(prime, steps, numbers_of(3, degree, row))
        if any(rest):
            steps[start_of(rest)] = made_normal(prime, rest)
            found.append(row)
    return found


def own_generators(lot):
    """Generators of a lot that was checked, which kill its first line, in the order of their degrees."""
    most = lot.many - 1 if lot.is_bundle else lot.many - 2
    found, lower = [], ()
    for degree in range(most + 1):
        rows = killing_base(lot, lot.lines[0], degree)
        found.extend(fresh_rows(lot.prime, lower, rows, degree))
        lower = rows
    return tuple(found)


def degrees_in_order(rows):
    """The degrees of some rows, the lesser ones first."""
    return tuple(sorted([degree_of_all(row) for row in rows]))


def relation_degrees_in(lot, degrees):
    """The degrees of the relations of generators with these degrees, for a lot that was checked."""
    found = []
    for degree in range(lot.many):
        made_of = sum([count_terms(degree - one) for one in degrees])
        told = sum([count_terms(degree - one) for one in found])
        found.extend([degree] * (made_of - killing_number(lot, degree) - told))
    return tuple(found)


def told_by_own(lot, own, row):
    """The paper, without the plain row, by which the own generators tell a tangent row: a scale and their forms."""
    prime, degree = lot.prime, degree_of_all(row)
    line = lot.lines[0]
    places, columns = [], []
    for at, one in enumerate(own):
        for place in exponents_of(3, degree - degree_of_all(one)):
            places.append((at, place))
            columns.append(numbers_of(3, degree, times_all(one, Form(prime, 3, {place: 1}))))
    killing = without_plain(row, quotient_at(line, row))
    scale, numbers = told_numbers(prime, columns, numbers_of(3, degree, killing))
    tables = [{} for _ in own]
    for (at, place), number in zip(places, numbers):
        if number != 0:
            tables[at][place] = number
    return scale, tuple([made(prime, 3, table) for table in tables])


def same_degree(rows, degree):
    """The indices of the rows of a degree."""
    return [at for at, row in enumerate(rows) if degree_of_all(row) == degree]


def square_of(own, rows, papers, degree):
    """The numbers by which the rows of a degree are told by the own generators of this degree."""
    places = same_degree(own, degree)
    return [[papers[at][1][place][CONSTANT] for place in places] for at in same_degree(rows, degree)]


def are_generators_in(lot, own, value):
    """Whether the value is a tuple of generators of a lot that was checked, with its own generators."""
    if not isinstance(value, tuple) or not all([is_tangent_row(lot, row) for row in value]):
        return False
    degrees = degrees_in_order(own)
    if degrees_in_order(value) != degrees:
        return False
    papers = [told_by_own(lot, own, row) for row in value]
    squares = [square_of(own, value, papers, degree) for degree in degrees]
    return all([rank_of(lot.prime, square) == len(square) for square in squares])


def summed(prime, scale, parts):
    """The paper of a row whose multiple by the scale is the sum of rows with papers, each multiplied by its form."""
    whole = 1
    for _, paper in parts:
        whole = lcm(whole, paper[0])
    times = [whole // paper[0] for _, paper in parts]
    many = len(parts[0][1][1])
    forms = []
    for at in range(many):
        forms.append(mixed([factor * paper[1][at] for factor, paper in parts], times))
    less, under = told_with_scale(prime, scale * whole, forms)
    return under, less


def constant(prime, number):
    """The form of the degree 0 with a number of any size, or zero."""
    return made(prime, 3, {CONSTANT: number} if number else {})


def trivial_papers(prime, many):
    """The papers of some rows by themselves."""
    one, zero = made(prime, 3, unit(3)), Form(prime, 3)
    return [(1, tuple([one if at == place else zero for at in range(many)])) for place in range(many)]


def told_back(lot, own, rows):
    """The papers, without the plain row, by which generators that were checked tell the own ones."""
    prime = lot.prime
    papers = [told_by_own(lot, own, row) for row in rows]
    trivial = trivial_papers(prime, len(rows))
    back = []
    for degree in sorted(set(degrees_in_order(own))):
        square, lower = square_of(own, rows, papers, degree), list(back)
        given = same_degree(rows, degree)
        for column in range(len(given)):
            wanted = [1 if at == column else 0 for at in range(len(given))]
            scale, numbers = told_numbers(prime, square, wanted)
            parts = [(constant(prime, number * papers[at][0]), trivial[at]) for at, number in zip(given, numbers)]
            for place, paper in enumerate(lower):
                less = mixed([papers[at][1][place] for at in given], [-number for number in numbers])
                parts.append((less, paper))
            back.append(summed(prime, scale, parts))
    return back


def products_of(rows, forms):
    """The rows, each multiplied by its form."""
    return [times_all(row, form) for row, form in zip(rows, forms)]


def paper_of(lot, own, rows, row):
    """A paper by which generators tell a tangent row, all of which were checked."""
    prime = lot.prime
    under, told = told_by_own(lot, own, row)
    scale, forms = summed(prime, under, list(zip(told, told_back(lot, own, rows))))
    firsts = [product[0] for product in products_of(rows, forms)]
    less = [-1] * len(rows)
    left = mixed([row[0], *firsts], [scale, *less])
    return scale, (left.over(linear(prime, (1, 0, 0))), *forms)


def is_any_number(prime, value):
    """Whether the value is a number over the prime, of any size, other than 0."""
    if not isinstance(value, int) or isinstance(value, bool):
        return False
    return 0 < value < prime if prime else value != 0


def is_paper_of(lot, rows, row, value):
    """Whether the value is a paper by which generators tell a tangent row, all of which were checked."""
    prime = lot.prime
    if not isinstance(value, tuple) or len(value) != 2 or not is_any_number(prime, value[0]):
        return False
    scale, forms = value
    whole = (plain_row(prime), *rows)
    if not isinstance(forms, tuple) or len(forms) != len(whole) or not all([is_form(prime, 3, form) for form in forms]):
        return False
    sizes = [form.degree + degree_of_all(one) for one, form in zip(whole, forms) if form]
    if sizes and (min(sizes) != max(sizes) or max(sizes) > MAX_DEGREE):
        return False
    products = products_of(whole, forms)
    sums = [mixed([product[at] for product in products], [1] * len(whole)) for at in range(len(row))]
    return sums == [mixed([form], [scale]) for form in row]


def need_told(lot, rows, row):
    """The own generators of a lot; raises the errors for the values of which a paper is asked."""
    need_lot(lot)
    need_few_lines(lot, MOST_LINES)
    own = own_generators(lot)
    if not are_generators_in(lot, own, rows):
        raise InvalidRow("no tuple of generators of the lot")
    need_tangent(lot, row)
    if degree_of_all(row) > MOST_TOLD:
        raise TooMany(MOST_TOLD)
    return own


def generator_degrees(lot):
    """The degrees of generators, the lesser ones first."""
    need_lot(lot)
    need_few_lines(lot, MOST_LINES)
    return degrees_in_order(own_generators(lot))


def relation_degrees(lot):
    """The degrees of the relations of generators, the lesser ones first."""
    return relation_degrees_in(lot, generator_degrees(lot))


def generators(lot):
    """Generators of the lot, in the order of their degrees."""
    need_lot(lot)
    need_few_lines(lot, MOST_LINES)
    return own_generators(lot)


def are_generators(lot, value):
    """Whether the value is a tuple of generators of the lot, in any order."""
    need_lot(lot)
    need_few_lines(lot, MOST_LINES)
    return are_generators_in(lot, own_generators(lot), value)


def told_by_generators(lot, rows, row):
    """A paper by which generators tell a tangent row: a scale, and forms for the plain row and for them."""
    own = need_told(lot, rows, row)
    return paper_of(lot, own, rows, row)


def is_told_by_generators(lot, rows, row, value):
    """Whether the value is a paper by which generators of the lot tell a tangent row."""
    need_told(lot, rows, row)
    return is_paper_of(lot, rows, row, value)


def degrees_left(lot, line):
    """The degrees of generators of a free lot without one of its lines, the lesser ones first."""
    need_lot(lot)
    need_line_of(lot, line)
    if lot.many == 1:
        raise InvalidOperation("no line would be left")
    pair = degrees_if_free(lot)
    many = count_points(lot, line)
    less = degrees_less(pair, many)
    return tuple(sorted((*pair, lot.many - 1 - many))) if less is None else less
