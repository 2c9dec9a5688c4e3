"""Lines and points of the plane over a prime."""

from tangentrows.base.numbers import all_fit, made_normal, need_prime, settled
from tangentrows.errors import InvalidLine, InvalidOperation, InvalidPoint, Refused, TooMany

MAX_ENTRY = 1000
MAX_EACH = 7


def is_normal_triple(prime, value):
    """Whether the value is a normal triple over a prime that was checked."""
    return all_fit(prime, value, 3) and any(value) and made_normal(prime, value) == value


def is_small(triple):
    """Whether the integers of a normal triple are not too great for a line; over primes other than 0 they never are."""
    return max([abs(number) for number in triple]) <= MAX_ENTRY


def fits_line(prime, value):
    """Whether the value is a line over a prime that was checked."""
    return is_normal_triple(prime, value) and is_small(value)


def is_line(prime, value):
    """Whether the value is a line over the prime."""
    need_prime(prime)
    return fits_line(prime, value)


def is_point(prime, value):
    """Whether the value is a point over the prime."""
    need_prime(prime)
    return is_normal_triple(prime, value)


def need_line(prime, line):
    """Raise the error for a line over a prime that was checked, if it is none."""
    if not fits_line(prime, line):
        raise InvalidLine("no line over the prime")


def need_point(prime, point):
    """Raise the error for a point over a prime that was checked, if it is none."""
    if not is_normal_triple(prime, point):
        raise InvalidPoint("no point over the prime")


def line_of(prime, numbers):
    """The line whose triple is a multiple of a triple of numbers."""
    need_prime(prime)
    if not all_fit(prime, numbers, 3) or not any(numbers):
        raise InvalidLine("no triple of numbers, not all 0")
    line = made_normal(prime, numbers)
    if not is_small(line):
        raise InvalidLine("an integer of the line is too great")
    return line


def lies_on(prime, point, line):
    """Whether the point is on the line, both of which were checked."""
    return settled(prime, sum([one * two for one, two in zip(point, line)])) == 0


def is_on(prime, point, line):
    """Whether the point is on the line."""
    need_prime(prime)
    need_point(prime, point)
    need_line(prime, line)
    return lies_on(prime, point, line)


def crossed(prime, one, other):
    """The meet of two lines, or the join of two points, which were checked and are unlike."""
    a, b, c = one
    d, e, f = other
    numbers = (b * f - c * e, c * d - a * f, a * e - b * d)
    return made_normal(prime, [settled(prime, number) for number in numbers])


def meet(prime, one, other):
    """The point that two lines have in common."""
    need_prime(prime)
    need_line(prime, one)
    need_line(prime, other)
    if one == other:
        raise Refused(("same",))
    return crossed(prime, one, other)


def join(prime, one, other):
    """The normal triple of the line on which two points are."""
    need_prime(prime)
    need_point(prime, one)
    need_point(prime, other)
    if one == other:
        raise Refused(("same",))
    return crossed(prime, one, other)


def letters_of(line):
    """The indices of the two letters that a line keeps, and of the letter that it leaves out."""
    if line[2] != 0:
        return 0, 1, 2
    return (0, 2, 1) if line[1] != 0 else (1, 2, 0)


def triples_over(prime):
    """All normal triples over a prime other than 0, ascending."""
    found = [(0, 0, 1)]
    for last in range(prime):
        found.append((0, 1, last))
    for middle in range(prime):
        for last in range(prime):
            found.append((1, middle, last))
    return found


def each_line(prime):
    """All lines over the prime, ascending."""
    need_prime(prime)
    if prime == 0:
        raise InvalidOperation("there is no end of lines over 0")
    if prime > MAX_EACH:
        raise TooMany(MAX_EACH)
    for line in triples_over(prime):
        yield line
