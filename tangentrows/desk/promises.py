"""Promises about lots, and papers against them."""

from tangentrows.base.numbers import all_fit, is_integer, need_prime
from tangentrows.chain.chains import is_missing_in, missing_in
from tangentrows.errors import InvalidPromise
from tangentrows.free.free import found_degrees
from tangentrows.plane.lines import fits_line, is_normal_triple
from tangentrows.plane.lots import MAX_LINES, need_lot
from tangentrows.press.pairs import are_two_in, degrees_in, is_bar_in, two_in

MOST_DEGREE = 12


def are_degrees(value):
    """Whether the value, a tuple, are two degrees as promises tell them."""
    return all_fit(0, value, 2) and 0 <= value[0] <= value[1] <= MOST_DEGREE


def fits_promise(prime, value):
    """Whether the value is a promise over a prime that was checked."""
    if not isinstance(value, tuple) or not value:
        return False
    word, told = value[0], value[1:]
    if word == "free":
        return told == ()
    if word == "degrees":
        return are_degrees(told)
    if word == "pressed":
        return len(told) == 3 and fits_line(prime, told[0]) and are_degrees(told[1:])
    if word == "most":
        return all_fit(0, told, 1) and 1 <= told[0] <= MAX_LINES
    return word == "modular" and len(told) == 1 and is_normal_triple(prime, told[0])


def need_promise(lot, promise):
    """Raise the errors for a value that is no lot, and for a value that is no promise over its prime."""
    need_lot(lot)
    if not fits_promise(lot.prime, promise):
        raise InvalidPromise("no promise over the prime of the lot")


def too_full(lot, most):
    """The first point of the lot whose number is above the most, or None if there is none."""
    for point in lot.points:
        if lot.number_at(point) > most:
            return point
    return None


def against_free(lot):
    """A paper against the promise that a lot is free, or None if it is."""
    if found_degrees(lot) is not None:
        return None
    line = lot.lines[0]
    return "bar", line, two_in(lot, line)


def against_degrees(lot, low, high):
    """A paper against the promise that a lot is free with these degrees, or None if it is."""
    if low + high != lot.many - 1:
        return "many", lot.many
    if low * high != lot.rest:
        return "rest", lot.rest
    return against_free(lot)


def against_modular(lot, point):
    """A paper against the promise that a point is modular, or None if it is."""
    if point not in lot.points:
        return "off", point
    missing = missing_in(lot, point)
    return None if missing is None else ("lines", *missing)


def found_paper(lot, promise):
    """A paper against a promise, or None if it holds; both were checked."""
    word = promise[0]
    if word == "free":
        return against_free(lot)
    if word == "degrees":
        return against_degrees(lot, promise[1], promise[2])
    if word == "pressed":
        line = promise[1]
        return None if degrees_in(lot, line) == promise[2:] else ("two", two_in(lot, line))
    if word == "most":
        point = too_full(lot, promise[1])
        return None if point is None else ("point", point)
    return against_modular(lot, promise[1])


def holds(lot, promise):
    """Whether a promise holds; both were checked."""
    return found_paper(lot, promise) is None


def is_integer_paper(value, word, number):
    """Whether the value is the paper of a word and a number."""
    return len(value) == 2 and is_integer(value[1]) and value == (word, number)


def is_against_free(lot, value):
    """Whether a tuple is a paper against the promise that a lot is free."""
    if len(value) != 3 or value[0] != "bar" or not fits_line(lot.prime, value[1]):
        return False
    return is_bar_in(lot, value[1], value[2])


def is_against_degrees(lot, low, high, value):
    """Whether a tuple is a paper against the promise that a lot is free with these degrees."""
    if low + high != lot.many - 1:
        return is_integer_paper(value, "many", lot.many)
    if low * high != lot.rest:
        return is_integer_paper(value, "rest", lot.rest)
    return is_against_free(lot, value)


def is_against_pressed(lot, line, pair, value):
    """Whether a tuple is a paper against the promise of the pressed degrees on a line."""
    if len(value) != 2 or value[0] != "two" or degrees_in(lot, line) == pair:
        return False
    return are_two_in(lot, line, value[1])


def is_against_most(lot, most, value):
    """Whether a tuple is a paper against the promise of the most lines through a point."""
    if len(value) != 2 or value[0] != "point" or not is_normal_triple(lot.prime, value[1]):
        return False
    return lot.number_at(value[1]) > most


def is_against_modular(lot, point, value):
    """Whether a tuple is a paper against the promise that a point is modular."""
    if point not in lot.points:
        return len(value) == 2 and value[0] == "off" and all_fit(0, value[1], 3) and value[1] == point
    return len(value) == 3 and value[0] == "lines" and is_missing_in(lot, point, value[1:])


def is_promise(prime, value):
    """Whether the value is a promise over the prime."""
    need_prime(prime)
    return fits_promise(prime, value)


def does_hold(lot, promise):
    """Whether the promise holds for the lot."""
    need_promise(lot, promise)
    return holds(lot, promise)


def paper_against(lot, promise):
    """A paper against the promise, or None if it holds."""
    need_promise(lot, promise)
    return found_paper(lot, promise)


def is_paper_against(lot, promise, value):
    """Whether the value is a paper against the promise."""
    need_promise(lot, promise)
    if not isinstance(value, tuple):
        return False
    word = promise[0]
    if word == "free":
        return is_against_free(lot, value)
    if word == "degrees":
        return is_against_degrees(lot, promise[1], promise[2], value)
    if word == "pressed":
        return is_against_pressed(lot, promise[1], promise[2:], value)
    if word == "most":
        return is_against_most(lot, promise[1], value)
    return is_against_modular(lot, promise[1], value)
