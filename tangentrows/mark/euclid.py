"""Pairs that are tangent to marks, by division of polynomials and by growth, spot by spot.

In the division a pair of polynomials in one letter is a normal row of numbers: those of the first one, in descending
exponents from the total of the marks on, and then those of the second one.
"""

from tangentrows.base.numbers import inverse_of, made_normal, settled
from tangentrows.base.tables import echelon_of, kernel_of, lowered, start_of, steps_of, without_steps
from tangentrows.errors import InvalidPair, Refused
from tangentrows.form.forms import Form, degree_of_all
from tangentrows.form.products import linear
from tangentrows.form.vectors import forms_of, mixed, numbers_of, quotient_of, times_all
from tangentrows.mark.marks import Marks, need_marks, need_spot
from tangentrows.mark.pairs import are_two_of, is_tangent_pair, pair_rows

END = (0, 1)


def need_no_end(marks):
    """Raise the errors for a value that is no marks, and for marks of which the end is a spot."""
    need_marks(marks)
    if END in marks:
        raise Refused(("end",))


def contact_of(marks):
    """The numbers of the contact, descending, and its denominator behind them, for marks that were checked."""
    prime, total = marks.prime, marks.total
    # Of the second form only the number of the last power of y can be other than 0.
    rows = [row[:total] + row[-1:] for row in pair_rows(marks, total - 1)]
    numbers = kernel_of(prime, rows, total + 1)[0]
    if prime:
        times = inverse_of(prime, numbers[-1])
    else:
        times = 1 if numbers[-1] > 0 else -1
    return tuple([settled(prime, number * times) for number in numbers])


def contact(marks):
    """The pair of the contact and its denominator."""
    need_no_end(marks)
    *numbers, under = contact_of(marks)
    if not numbers:
        return Form(marks.prime, 2), under
    return forms_of(marks.prime, 2, marks.total - 1, numbers)[0], under


def degree_in(part):
    """The degree of a polynomial with these numbers, descending; -1 for zero."""
    return len(part) - 1 - start_of(part) if any(part) else -1


def degrees_in(row):
    """The degrees of both polynomials of a row."""
    half = len(row) // 2
    return degree_in(row[:half]), degree_in(row[half:])


def shifted(row, many):
    """The row of both polynomials, multiplied by so high a power of the letter."""
    # The second one has so low a degree that none of its numbers gets among those of the first one.
    return row[many:] + (0,) * many


def remainder(prime, upper, lower):
    """The row that division of one row by the next one leaves."""
    start = start_of(lower)
    rest = upper
    for at in range(start + 1):
        rest = lowered(prime, rest, shifted(lower, start - at), at)
    return made_normal(prime, rest)


def rows_of_division(marks):
    """The list of the rows of the division, for marks that were checked."""
    prime, total = marks.prime, marks.total
    *numbers, under = contact_of(marks)
    first = numbers_of(2, total, (marks.product,)) + [0] * (total + 1)
    second = [0] + numbers + [0] * total + [under]
    rows = [made_normal(prime, first), made_normal(prime, second)]
    while degrees_in(rows[-1])[0] >= 0:
        rows.append(remainder(prime, rows[-2], rows[-1]))
    return rows


def pair_in(prime, row):
    """The pair of forms that a row of the division becomes."""
    half = len(row) // 2
    degree = max(degrees_in(row))
    skip = half - 1 - degree
    return forms_of(prime, 2, degree, row[skip:half] + row[half + skip:])


def turn_in(rows):
    """The index of the turn in the rows of a division."""
    found = 0
    for at, row in enumerate(rows):
        over, under = degrees_in(row)
        if over >= under:
            found = at
    return found


def divided(marks):
    """The tuple of the pairs of the division, as normal pairs of forms."""
    need_no_end(marks)
    return tuple([pair_in(marks.prime, row) for row in rows_of_division(marks)])


def turn_of(marks):
    """The index of the turn in the division."""
    need_no_end(marks)
    return turn_in(rows_of_division(marks))


def by_division(marks):
    """The turn and the pair behind it, that of the lesser degree first, for marks that were checked."""
    rows = rows_of_division(marks)
    turn = turn_in(rows)
    return in_order(pair_in(marks.prime, rows[turn]), pair_in(marks.prime, rows[turn + 1]))


def in_order(one, other):
    """Two pairs, that of the lesser degree first; in this order if the degrees are equal."""
    return (other, one) if degree_of_all(other) < degree_of_all(one) else (one, other)


def degrees_by_division(marks):
    """The degrees of the marks, the lesser one first."""
    need_no_end(marks)
    first, second = by_division(marks)
    return degree_of_all(first), degree_of_all(second)


def pairs_by_division(marks):
    """The turn and the pair behind it, that of the lesser degree first."""
    need_no_end(marks)
    return by_division(marks)


def rest_of(marks, pair, spot):
    """The rest of a tangent pair at a spot, all of which were checked."""
    prime = marks.prime
    a, b = spot
    form = quotient_of(mixed(pair, spot), linear(prime, spot), marks.count_at(spot))
    return form.at((b, settled(prime, -a)))


def rest_at(marks, pair, spot):
    """The rest of a tangent pair at a spot."""
    need_marks(marks)
    if not is_tangent_pair(marks, pair) or degree_of_all(pair) < 0:
        raise InvalidPair("no tangent pair other than zero")
    need_spot(marks.prime, spot)
    return rest_of(marks, pair, spot)


def with_least_numbers(first, second):
    """Two pairs that tell the same pairs as these two in order, and whose numbers the marks alone tell.

    The second one is determined only up to multiples of the first one, so its numbers could grow without end.
    """
    prime = first[0].prime
    low, high = degree_of_all(first), degree_of_all(second)
    upper, under = numbers_of(2, low, first), numbers_of(2, high, second)
    if low == high:
        return tuple([forms_of(prime, 2, low, numbers) for numbers in echelon_of(prime, [upper, under])])
    powers = [Form(prime, 2, {(high - low - at, at): 1}) for at in range(high - low + 1)]
    multiples = [numbers_of(2, high, times_all(first, power)) for power in powers]
    rest = without_steps(prime, steps_of(prime, multiples), under)
    return forms_of(prime, 2, low, made_normal(prime, upper)), forms_of(prime, 2, high, made_normal(prime, rest))


def grown_from(marks, two, spot):
    """Two pairs of the marks in which a spot counts once more, of two pairs of the marks, all of which were checked."""
    prime = marks.prime
    a, b = spot
    first, second = in_order(two[0], two[1])
    upper, under = [rest_of(marks, pair, spot) for pair in (first, second)]
    if upper == 0:
        kept, taken = first, second
    else:
        kept, taken = second, first
    if upper != 0 and under != 0:
        more = degree_of_all(second) - degree_of_all(first)
        power = Form(prime, 2, {(more, 0) if b else (0, more): 1})
        value = settled(prime, upper * power.at((b, settled(prime, -a))))
        less = times_all(first, power)
        kept = tuple([mixed(forms, (value, -under)) for forms in zip(second, less)])
    one, other = in_order(times_all(taken, linear(prime, spot)), kept)
    return with_least_numbers(one, other)


def grown(marks, two, spot):
    """Two pairs of the marks in which a spot counts once more, that of the lesser degree first."""
    need_marks(marks)
    if not are_two_of(marks, two):
        raise InvalidPair("no two pairs that tell all others")
    marks.raised(spot)
    return grown_from(marks, two, spot)


def pairs_by_growth(marks):
    """Two pairs of the marks that grow from (1, 0) and (0, 1), that of the lesser degree first."""
    need_marks(marks)
    prime = marks.prime
    one, zero = Form(prime, 2, {(0, 0): 1}), Form(prime, 2)
    two = ((one, zero), (zero, one))
    done = Marks(prime, {})
    for spot, count in marks.counts.items():
        for _ in range(count):
            two = grown_from(done, two, spot)
            done = done.raised(spot)
    return two
