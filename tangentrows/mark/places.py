"""What the places of spots tell of the degrees of marks."""

from tangentrows.base.numbers import is_integer, made_normal, need_finite, need_prime, settled
from tangentrows.errors import InvalidOperation, InvalidPair, TooMany
from tangentrows.form.forms import MAX_DEGREE, degree_of_all, made
from tangentrows.form.vectors import are_forms
from tangentrows.mark.marks import MAX_COUNT, MAX_TOTAL, Marks, is_spot, need_marks
from tangentrows.mark.pairs import degrees_of_marks


def need_finite_marks(marks):
    """Raise the error for marks over 0."""
    if marks.prime == 0:
        raise InvalidOperation("the marks are over 0")


def bracket(one, other):
    """The bracket of two spots, without regard to a prime."""
    return one[0] * other[1] - one[1] * other[0]


def cross_ratio(prime, spots):
    """The cross ratio of four spots, a normal pair."""
    need_prime(prime)
    if not isinstance(spots, tuple) or not all([is_spot(prime, spot) for spot in spots]):
        raise InvalidOperation("no tuple of spots")
    if len(spots) != 4 or len(set(spots)) != 4:
        raise InvalidOperation("there are not four unlike spots")
    a, b, c, d = spots
    numbers = (bracket(a, c) * bracket(b, d), bracket(a, d) * bracket(b, c))
    return made_normal(prime, [settled(prime, number) for number in numbers])


def is_harmonic(prime, spots):
    """Whether four spots are harmonic."""
    return settled(prime, sum(cross_ratio(prime, spots))) == 0


def near_odd(counts, power):
    """The distance below the power of a triple with an odd sum, times the power, from the counts; None without one."""
    options = [(0, 0)]
    for count in counts:
        at, over = count // power, count % power
        # Each further number of a triple would be too far away by itself.
        near = ((at, over), (at + 1, power - over))
        options = [(total + number, distance + more) for total, distance in options for number, more in near]
    found = [distance for total, distance in options if total % 2 == 1 and distance < power]
    return found[0] if found else None


def gap_by_powers(prime, counts):
    """The gap of three counts over a prime other than 0, none of which is as great as the two others together."""
    gap = 0
    power = 1
    # Above all counts together no triple with an odd sum is near enough.
    while power <= sum(counts):
        distance = near_odd(counts, power)
        if distance is not None:
            gap = power - distance
        power = power * prime
    return gap


def gap_of(prime, counts):
    """The gap of three counts, all of which were checked."""
    most, total = max(counts), sum(counts)
    if 2 * most >= total:
        return 2 * most - total
    return gap_by_powers(prime, counts) if prime else total % 2


def gap_of_three(prime, counts):
    """The gap of three counts."""
    need_prime(prime)
    if not isinstance(counts, tuple) or len(counts) != 3:
        raise InvalidOperation("no tuple of three counts")
    if not all([is_integer(count) and count >= 0 for count in counts]):
        raise InvalidOperation("a count is no integer of at least 0")
    return gap_of(prime, counts)


def with_gap(total, gap):
    """The degrees with this sum and this difference, the lesser one first."""
    return (total - gap) // 2, (total + gap) // 2


def degrees_by_counts(marks):
    """The degrees of the marks, if their counts alone tell them, otherwise None."""
    need_marks(marks)
    counts = tuple(marks.counts.values())
    total, many = marks.total, len(counts)
    if many == 0:
        return 0, 0
    most = max(counts)
    if 2 * most >= total:
        return total - most, most
    if total <= 2 * many - 1:
        return min(many - 1, total - many + 1), max(many - 1, total - many + 1)
    if many == 3:
        return with_gap(total, gap_of(marks.prime, counts))
    if marks.prime == 0 and many == 4 and total % 2 == 1:
        return with_gap(total, 1)
    return None


def are_special(marks):
    """Whether marks that were checked are special."""
    counts = list(marks.counts.values())
    if counts and 2 * max(counts) > marks.total:
        return False
    low, high = degrees_of_marks(marks)
    return high - low > 1


def is_special(marks):
    """Whether the marks are special."""
    need_marks(marks)
    return are_special(marks)


def spots_over(prime):
    """All spots over a prime other than 0, ascending."""
    found = [(0, 1)]
    for last in range(prime):
        found.append((1, last))
    return found


def special_places(marks, spot):
    """All spots in the place of which, instead of one spot, the marks would be special, ascending."""
    need_marks(marks)
    if spot not in marks:
        raise InvalidOperation("no spot of the marks")
    need_finite_marks(marks)
    others = marks.counts
    count = others[spot]
    del others[spot]
    found = []
    for place in spots_over(marks.prime):
        if place not in others and are_special(Marks(marks.prime, {**others, place: count})):
            found.append(place)
    return tuple(found)


def widened(marks):
    """The marks with all counts multiplied by their prime."""
    need_marks(marks)
    need_finite_marks(marks)
    counts = {spot: count * marks.prime for spot, count in marks.counts.items()}
    if counts and max(counts.values()) > MAX_COUNT:
        raise TooMany(MAX_COUNT)
    if sum(counts.values()) > MAX_TOTAL:
        raise TooMany(MAX_TOTAL)
    return Marks(marks.prime, counts)


def widened_pair(prime, pair):
    """The pair in which x and y are replaced with their powers with the prime as the exponent."""
    need_finite(prime)
    if not are_forms(prime, 2, 2, pair):
        raise InvalidPair("no pair of forms in x and y over the prime")
    if degree_of_all(pair) * prime > MAX_DEGREE:
        raise TooMany(MAX_DEGREE)
    found = []
    for form in pair:
        table = {(first * prime, second * prime): number for (first, second), number in form.table.items()}
        found.append(made(prime, 2, table))
    return tuple(found)
