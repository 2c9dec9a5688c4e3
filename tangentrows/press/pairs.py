"""Pressed pairs on the lines of the plane, and what their degrees tell."""

from tangentrows.base.numbers import need_between, powers_of, settled
from tangentrows.base.tables import kernel_of, rank_of
from tangentrows.errors import InvalidOperation, InvalidPair, TooMany
from tangentrows.form.forms import MAX_DEGREE, degree_of_all, is_form, made
from tangentrows.form.products import linear
from tangentrows.form.vectors import determinant_of_pairs, forms_of, mixed, quotient_of
from tangentrows.mark.pairs import apart_from, base_of, counted_in, degrees_of_marks, is_tangent_pair, order_rows
from tangentrows.plane.lines import letters_of
from tangentrows.press.lines import marks_in, need_lot_and_line, triple_in, triples_in
from tangentrows.row.rows import need_tangent, quotient_at, without_plain

MAX_PRESSED = 14


def value_row(prime, place, degree):
    """The row that sends the numbers of a form in x and y of the degree to its value at a pair of numbers."""
    ahead, behind = powers_of(prime, place[0], degree), powers_of(prime, place[1], degree)
    return [settled(prime, ahead[degree - at] * behind[at]) for at in range(degree + 1)]


def place_of(prime, triple):
    """The pair of numbers at which a triple tells what a pressed pair is."""
    return triple[1], settled(prime, -triple[0])


def off_rows(lot, line, degree):
    """Rows that send the numbers of a pair to zeros just if it is a pressed pair on a line that is not in the lot."""
    prime = lot.prime
    found = []
    for spot, triples in triples_in(lot, line).items():
        many = len(triples)
        if many == 1:
            place = place_of(prime, triples[0])
            under = [settled(prime, triples[0][2] * number) for number in value_row(prime, place, degree)]
            found.append(value_row(prime, place, degree + 1) + under)
            continue
        for row in order_rows(prime, spot, 1, degree + 1):
            found.append(row + [0] * (degree + 1))
        for row in order_rows(prime, spot, many - 1, degree):
            found.append([0] * (degree + 2) + row)
    return found


def off_base(lot, line, degree):
    """Pressed pairs of the degree on a line that is not in the lot, of which all others are sums."""
    prime = lot.prime
    found = []
    for numbers in kernel_of(prime, off_rows(lot, line, degree), 2 * degree + 3):
        upper = forms_of(prime, 2, degree + 1, numbers[:degree + 2])
        under = forms_of(prime, 2, degree, numbers[degree + 2:])
        found.append(upper + under)
    return tuple(found)


def off_degree(pair):
    """The degree of a pair of forms, the first one of a degree more than the second one; -1 for zeros."""
    upper, under = pair
    if under:
        return under.degree
    return upper.degree - 1 if upper else -1


def is_off_pair(prime, value):
    """Whether the value is a pair of forms in x and y, the first one of a degree more than the second one, or zeros."""
    if not isinstance(value, tuple) or len(value) != 2 or not all([is_form(prime, 2, form) for form in value]):
        return False
    upper, under = value
    return not upper or not under or upper.degree == under.degree + 1


def fits_triples(prime, spot, triples, pair):
    """Whether a pair of forms is as the triples of a spot tell it."""
    upper, under = pair
    if len(triples) == 1:
        place = place_of(prime, triples[0])
        return settled(prime, upper.at(place) + triples[0][2] * under.at(place)) == 0
    step = linear(prime, spot)
    return quotient_of(upper, step) is not None and quotient_of(under, step, len(triples) - 1) is not None


def is_pressed_pair(lot, line, value):
    """Whether the value is a pressed pair on a line, for a lot and a line that were checked."""
    if line in lot:
        return is_tangent_pair(marks_in(lot, line), value)
    if not is_off_pair(lot.prime, value):
        return False
    triples = triples_in(lot, line)
    return all([fits_triples(lot.prime, spot, triples[spot], value) for spot in triples])


def degrees_in(lot, line):
    """The pressed degrees, for a lot and a line that were checked."""
    if line in lot:
        return degrees_of_marks(marks_in(lot, line))
    # Below half of the sum of the degrees only multiples of the pair of the lesser degree are pressed.
    half = (lot.many - 1) // 2
    low = rank_of(lot.prime, off_rows(lot, line, half - 1)) - half - 1
    return low, lot.many - 1 - low


def two_in(lot, line):
    """Two pressed pairs that tell all others, that of the lesser degree first; lot and line were checked."""
    low, high = degrees_in(lot, line)
    if line in lot:
        marks = marks_in(lot, line)
        first, others = base_of(marks, low)[0], base_of(marks, high)
    else:
        first, others = off_base(lot, line, low)[0], off_base(lot, line, high)
    return first, apart_from(first, others)


def degree_on(lot, line, pair):
    """The degree of a pressed pair, -1 for zeros."""
    return degree_of_all(pair) if line in lot else off_degree(pair)


def are_two_in(lot, line, value):
    """Whether the value is a tuple of two pressed pairs that tell all others; lot and line were checked."""
    if not isinstance(value, tuple) or len(value) != 2:
        return False
    if not all([is_pressed_pair(lot, line, pair) for pair in value]):
        return False
    sizes = [degree_on(lot, line, pair) for pair in value]
    # With this sum of degrees the determinant is a number, times the product that it is to be a multiple of.
    return sum(sizes) == lot.many - 1 and bool(determinant_of_pairs(value[0], value[1]))


def is_bar_in(lot, line, value):
    """Whether the value is a bar on a line, for a lot and a line that were checked."""
    if not are_two_in(lot, line, value):
        return False
    sizes = [degree_on(lot, line, pair) for pair in value]
    return sizes[0] * sizes[1] < lot.rest


def images_on(prime, line):
    """The forms in x and y that come in the place of the three letters on a line, all of which were checked."""
    one, other, out = letters_of(line)
    letters = (linear(prime, (1, 0)), linear(prime, (0, 1)))
    images = [None, None, None]
    images[one] = letters[0] * line[out]
    images[other] = letters[1] * line[out]
    images[out] = mixed(letters, (-line[one], -line[other]))
    return tuple(images)


def need_curves(lot, line):
    """Raise the error for a line for which there are no curves."""
    if line in lot:
        raise InvalidOperation("the line is in the lot")
    if max([len(triples) for triples in triples_in(lot, line).values()]) > 2:
        raise InvalidOperation("the line meets the lot in a point with three or more lines")


def turned(form, last):
    """The table of a form at y and -x, times this power of z."""
    signs = (1, -1)
    return {(second, first, last): settled(form.prime, signs[second % 2] * number) for (first, second), number in form}


def is_pressed(lot, line, value):
    """Whether the value is a pressed pair on the line."""
    need_lot_and_line(lot, line)
    return is_pressed_pair(lot, line, value)


def count_pressed(lot, line, degree):
    """How many pressed pairs of the degree are free of one another."""
    need_lot_and_line(lot, line)
    need_between(degree, 0, MAX_PRESSED)
    low, high = degrees_in(lot, line)
    return counted_in(low, high, degree)


def degrees_on(lot, line):
    """The pressed degrees on the line, the lesser one first."""
    need_lot_and_line(lot, line)
    return degrees_in(lot, line)


def gap(lot, line):
    """The rest of the lot less the product of the pressed degrees on the line."""
    need_lot_and_line(lot, line)
    low, high = degrees_in(lot, line)
    return lot.rest - low * high


def two_pressed(lot, line):
    """Two pressed pairs that tell all others, that of the lesser degree first."""
    need_lot_and_line(lot, line)
    return two_in(lot, line)


def are_two_pressed(lot, line, value):
    """Whether the value is a tuple of two pressed pairs that tell all others, in either order."""
    need_lot_and_line(lot, line)
    return are_two_in(lot, line, value)


def bar_on(lot, line):
    """A bar on the line, or None if the lot is free."""
    need_lot_and_line(lot, line)
    low, high = degrees_in(lot, line)
    return two_in(lot, line) if low * high < lot.rest else None


def is_bar(lot, line, value):
    """Whether the value is a bar on the line."""
    need_lot_and_line(lot, line)
    return is_bar_in(lot, line, value)


def press(lot, line, row):
    """The pressed pair of a tangent row on the line."""
    need_lot_and_line(lot, line)
    need_tangent(lot, row)
    if line not in lot and degree_of_all(row) == MAX_DEGREE:
        raise TooMany(MAX_DEGREE)
    prime = lot.prime
    one, other, _ = letters_of(line)
    images = images_on(prime, line)
    if line in lot:
        killing = without_plain(row, quotient_at(line, row))
        return killing[one].led(images), killing[other].led(images)
    upper, under = row[one].led(images), row[other].led(images)
    letters = (linear(prime, (1, 0)), linear(prime, (0, 1)))
    return letters[0] * under - letters[1] * upper, mixed(row, line).led(images)


def curve_of(lot, line, pair):
    """The curve of a pressed pair."""
    need_lot_and_line(lot, line)
    if not is_pressed_pair(lot, line, pair) or degree_on(lot, line, pair) < 0:
        raise InvalidPair("no pressed pair other than zero")
    need_curves(lot, line)
    upper, under = pair
    if off_degree(pair) == MAX_DEGREE:
        raise TooMany(MAX_DEGREE)
    table = turned(upper, 0)
    table.update(turned(under, 1))
    return made(lot.prime, 3, table)


def is_curve(lot, line, value):
    """Whether the value is a curve for the line, of any degree."""
    need_lot_and_line(lot, line)
    need_curves(lot, line)
    if not is_form(lot.prime, 3, value) or not value:
        return False
    if max([last for _, _, last in value.table]) > 1:
        return False
    return all([value.at(triple_in(lot.prime, line, further)) == 0 for further in lot.lines])
