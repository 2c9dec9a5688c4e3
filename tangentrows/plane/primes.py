"""Lots over 0 modulo a prime, and the points off a lot over a prime."""

from tangentrows.base.numbers import PRIMES, made_normal, need_finite
from tangentrows.errors import InvalidOperation, Refused, TooMany
from tangentrows.plane.lines import each_line, lies_on, triples_over
from tangentrows.plane.lots import MAX_LINES, Lot, need_lot

MAX_ALL = 3


def need_over_fractions(lot):
    """Raise the error for a lot that is not over 0."""
    if lot.prime != 0:
        raise InvalidOperation("the lot is not over 0")


def lines_modulo(lot, prime):
    """The list of the lines of a lot over 0 modulo a prime, in the order of the lines of the lot."""
    return [made_normal(prime, [number % prime for number in line]) for line in lot.lines]


def reduced(lot, prime):
    """The lot of the lines modulo a prime."""
    need_lot(lot)
    need_finite(prime)
    need_over_fractions(lot)
    lines = lines_modulo(lot, prime)
    for at, line in enumerate(lines):
        if line in lines[at + 1:]:
            raise Refused(("fall", lot.lines[at], lot.lines[lines.index(line, at + 1)]))
    return Lot(prime, tuple(lines))


def does_keep(lot, prime):
    """Whether a prime keeps the points of a lot, both of which were checked."""
    lines = lines_modulo(lot, prime)
    return len(set(lines)) == lot.many and Lot(prime, tuple(lines)).rest == lot.rest


def keeps_points(lot, prime):
    """Whether the prime keeps the points of the lot."""
    need_lot(lot)
    need_finite(prime)
    need_over_fractions(lot)
    return does_keep(lot, prime)


def bad_primes(lot):
    """The primes that do not keep the points of the lot, ascending."""
    need_lot(lot)
    need_over_fractions(lot)
    return tuple([prime for prime in PRIMES if not does_keep(lot, prime)])


def need_over_finite(lot):
    """Raise the errors for a value that is no lot over a prime other than 0."""
    need_lot(lot)
    if lot.prime == 0:
        raise InvalidOperation("the lot is over 0")


def count_off(lot):
    """How many points over the prime of the lot are on none of its lines."""
    need_over_finite(lot)
    return lot.prime * lot.prime - (lot.many - 1) * lot.prime + lot.rest


def each_off(lot):
    """The points over the prime of the lot that are on none of its lines, ascending."""
    need_over_finite(lot)
    lines = lot.lines
    prime = lot.prime
    for point in triples_over(prime):
        if not any([lies_on(prime, point, line) for line in lines]):
            yield point


def all_lines(prime):
    """The lot of all lines over the prime."""
    need_finite(prime)
    if prime > MAX_ALL:
        raise TooMany(MAX_LINES)
    return Lot(prime, tuple(each_line(prime)))
