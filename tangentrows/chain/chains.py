"""Modular points of lots, and the histories of free lots."""

from tangentrows.base.choices import choices
from tangentrows.base.numbers import need_between
from tangentrows.errors import InvalidOperation
from tangentrows.free.deeds import count_points, degrees_less, degrees_more
from tangentrows.free.free import found_degrees
from tangentrows.plane.lines import crossed, is_normal_triple, lies_on, need_point
from tangentrows.plane.lots import Lot, need_lot
from tangentrows.row.rows import need_few_lines

MAX_SEARCHED = 9


def is_on_any(prime, point, lines):
    """Whether the point is on one of the lines, all of which were checked."""
    return any([lies_on(prime, point, line) for line in lines])


def missing_in(lot, point):
    """A missing join of a point of the lot, or None if it is modular; both were checked."""
    lines = lot.lines_at(point)
    for other in lot.points:
        if not is_on_any(lot.prime, other, lines):
            return lot.lines_at(other)[:2]
    return None


def is_modular_in(lot, point):
    """Whether a point of the plane is a modular point of a lot, both of which were checked."""
    return point in lot.points and missing_in(lot, point) is None


def is_missing_in(lot, point, value):
    """Whether the value is a missing join of a point of the lot, both of which were checked."""
    if not isinstance(value, tuple) or len(value) != 2 or not all([line in lot for line in value]):
        return False
    one, other = value
    # A line through the point is on its meets with all others, so such a pair is refused, too.
    return one < other and not is_on_any(lot.prime, crossed(lot.prime, one, other), lot.lines_at(point))


def need_modular(lot, point):
    """Raise the errors for a value that is no lot, and for a point that is none, or is not modular."""
    need_lot(lot)
    need_point(lot.prime, point)
    if not is_modular_in(lot, point):
        raise InvalidOperation("no modular point of the lot")


def need_point_of(lot, point):
    """Raise the errors for a value that is no lot, and for a point that is none of it."""
    need_lot(lot)
    need_point(lot.prime, point)
    if point not in lot.points:
        raise InvalidOperation("no point of the lot")


def found_history(lot, pair, dead):
    """A history of a free lot with these degrees, or None; the dict gathers the lines of lots without one."""
    lines = lot.lines
    if lot.many == 1:
        return lines
    if lines in dead:
        return None
    for line in lines:
        less = degrees_less(pair, count_points(lot, line))
        if less is not None:
            ahead = found_history(lot.without_line(line), less, dead)
            if ahead is not None:
                return (*ahead, line)
    dead[lines] = True
    return None


def are_all_free(prime, lines):
    """Whether the lots of the first line, of the first two lines, and so on, are all free."""
    pair = (0, 0)
    for at in range(1, len(lines)):
        pair = degrees_more(pair, count_points(Lot(prime, lines[:at]), lines[at]))
        if pair is None:
            return False
    return True


def modular_points(lot):
    """The modular points of the lot, ascending."""
    need_lot(lot)
    return tuple([point for point in lot.points if is_modular_in(lot, point)])


def is_modular(lot, value):
    """Whether the value is a modular point of the lot."""
    need_lot(lot)
    return is_normal_triple(lot.prime, value) and is_modular_in(lot, value)


def missing_join(lot, point):
    """A missing join of a point of the lot, or None if the point is modular."""
    need_point_of(lot, point)
    return missing_in(lot, point)


def is_missing_join(lot, point, value):
    """Whether the value is a missing join of a point of the lot."""
    need_point_of(lot, point)
    return is_missing_in(lot, point, value)


def degrees_by_point(lot, point):
    """The degrees of the lot as a modular point tells them, the lesser one first."""
    need_modular(lot, point)
    many = lot.number_at(point)
    return min(many - 1, lot.many - many), max(many - 1, lot.many - many)


def history_by_point(lot, point):
    """The lines through a modular point, ascending, and behind them all others, ascending."""
    need_modular(lot, point)
    first = lot.lines_at(point)
    others = [line for line in lot.lines if line not in first]
    return (*first, *others)


def history(lot):
    """A history of the lot, or None if there is none."""
    need_lot(lot)
    need_few_lines(lot, MAX_SEARCHED)
    pair = found_degrees(lot)
    return None if pair is None else found_history(lot, pair, {})


def is_history(lot, value):
    """Whether the value is a history of the lot."""
    need_lot(lot)
    if not isinstance(value, tuple) or len(value) != lot.many or not all([line in lot for line in value]):
        return False
    return len(set(value)) == lot.many and are_all_free(lot.prime, value)


def each_free_part(lot, many):
    """All free lots of so many lines of the lot, in the ascending order of their lines."""
    need_lot(lot)
    need_between(many, 1, lot.many)
    need_few_lines(lot, MAX_SEARCHED)
    for lines in choices(lot.lines, many):
        part = Lot(lot.prime, lines)
        if found_degrees(part) is not None:
            yield part
