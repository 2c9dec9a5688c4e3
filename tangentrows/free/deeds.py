"""What a line more or less makes of a free lot, and what the points on a line tell."""

from math import isqrt

from tangentrows.errors import InvalidOperation, Refused, TooMany
from tangentrows.free.free import found_degrees
from tangentrows.plane.lines import fits_line
from tangentrows.plane.lots import need_lot
from tangentrows.press.lines import need_lot_and_line

MAX_LINES = 13


def count_points(lot, line):
    """How many points a line of the plane has."""
    return len(lot.points_on(line))


def whole_of(lot):
    """The whole degrees of a lot that was checked, or None."""
    fewer = lot.many - 1
    square = fewer * fewer - 4 * lot.rest
    root = isqrt(max(0, square))
    # The square is even just if the number of the lines less 1 is.
    return ((fewer - root) // 2, (fewer + root) // 2) if root * root == square else None


def told_by_line(lot, whole, line):
    """What the points of a line show of a lot with these whole degrees: "free" or "not free", or None for nothing."""
    low, high = whole
    many = count_points(lot, line)
    if many in (low + 1, high + 1):
        return "free"
    if line in lot:
        return "not free" if many > high + 1 else None
    return "not free" if many < low + 1 else None


def paper_in(lot):
    """A points paper of a lot that was checked, or None if none of its lines makes one."""
    if lot.is_bundle:
        return ("bundle",)
    whole = whole_of(lot)
    if whole is None:
        return ("odd",)
    for line in lot.lines:
        word = told_by_line(lot, whole, line)
        if word is not None:
            return word, line
    return None


def degrees_less(pair, many):
    """The degrees that a free lot with these degrees has without a line with so many points, None if it is not free."""
    low, high = pair
    if many == high + 1:
        return low - 1, high
    if many == low + 1:
        return low, high - 1
    return None


def degrees_more(pair, many):
    """The degrees that a free lot with these degrees has with a further line with so many points, None as above."""
    low, high = pair
    if many == low + 1:
        return low, high + 1
    if many == high + 1:
        return low + 1, high
    return None


def degrees_if_free(lot):
    """The degrees of a lot that was checked; raises the error for a lot that is not free."""
    pair = found_degrees(lot)
    if pair is None:
        raise Refused(("not free",))
    return pair


def whole_degrees(lot):
    """The pair of the whole degrees, or None."""
    need_lot(lot)
    return whole_of(lot)


def point_counts(lot):
    """The dict from the lines of the lot, ascending, to how many points each has."""
    need_lot(lot)
    return {line: count_points(lot, line) for line in lot.lines}


def points_paper(lot):
    """A points paper, or None if no line of the lot makes one."""
    need_lot(lot)
    return paper_in(lot)


def is_points_paper(lot, value):
    """Whether the value is a points paper."""
    need_lot(lot)
    if not isinstance(value, tuple) or len(value) not in (1, 2):
        return False
    whole = whole_of(lot)
    if len(value) == 1:
        return (value == ("bundle",) and lot.is_bundle) or (value == ("odd",) and whole is None)
    word, line = value
    if whole is None or not isinstance(word, str) or not fits_line(lot.prime, line):
        return False
    return told_by_line(lot, whole, line) == word


def free_by_points(lot):
    """Whether the lot is free, as a points paper tells it; None if there is none."""
    need_lot(lot)
    paper = paper_in(lot)
    return None if paper is None else paper[0] in ("bundle", "free")


def degrees_without(lot, line):
    """The degrees that a free lot has without one of its lines, or None if it is not free then."""
    need_lot_and_line(lot, line)
    if line not in lot or lot.many == 1:
        raise InvalidOperation("no line that can be taken from the lot")
    return degrees_less(degrees_if_free(lot), count_points(lot, line))


def degrees_with(lot, line):
    """The degrees that a free lot has with a further line, or None if it is not free then."""
    need_lot_and_line(lot, line)
    if line in lot:
        raise InvalidOperation("the line is in the lot")
    pair = degrees_if_free(lot)
    if lot.many == MAX_LINES:
        raise TooMany(MAX_LINES)
    return degrees_more(pair, count_points(lot, line))


def free_lines(lot):
    """The lines of a free lot without which it is free, ascending."""
    need_lot(lot)
    pair = degrees_if_free(lot)
    return tuple([line for line in lot.lines if degrees_less(pair, count_points(lot, line)) is not None])
