"""What a lot leaves on a line of the plane: marks, or triples of its lines."""

from tangentrows.base.numbers import made_normal, need_prime, settled
from tangentrows.errors import InvalidOperation
from tangentrows.mark.marks import Marks
from tangentrows.plane.lines import letters_of, lies_on, need_line, need_point
from tangentrows.plane.lots import need_lot


def need_lot_and_line(lot, line):
    """Raise the errors for a value that is no lot, and for a line that is none over its prime."""
    need_lot(lot)
    need_line(lot.prime, line)


def spot_in(prime, line, point):
    """The spot of a point of a line, all of which were checked."""
    one, other, _ = letters_of(line)
    return made_normal(prime, (point[other], -point[one]))


def marks_in(lot, line):
    """The marks on a line of a lot, both of which were checked."""
    counts = {}
    for point in lot.points_on(line):
        counts[spot_in(lot.prime, line, point)] = lot.number_at(point) - 1
    return Marks(lot.prime, counts)


def triple_in(prime, line, further):
    """The triple of a line on another one, both of which were checked."""
    one, other, out = letters_of(line)
    high, low = line[out], further[out]
    numbers = (high * further[one] - low * line[one], high * further[other] - low * line[other], low)
    return tuple([settled(prime, number) for number in numbers])


def triples_in(lot, line):
    """The dict from the spots, ascending, to the triples on a line outside the lot, both of which were checked."""
    prime = lot.prime
    found = {}
    for further in lot.lines:
        triple = triple_in(prime, line, further)
        found.setdefault(made_normal(prime, triple[:2]), []).append(triple)
    return {spot: tuple(sorted(found[spot])) for spot in sorted(found)}


def left_out(prime, line):
    """The index of the letter that the line leaves out."""
    need_prime(prime)
    need_line(prime, line)
    return letters_of(line)[2]


def spot_of(prime, line, point):
    """The spot of a point of the line."""
    need_prime(prime)
    need_line(prime, line)
    need_point(prime, point)
    if not lies_on(prime, point, line):
        raise InvalidOperation("the point is not on the line")
    return spot_in(prime, line, point)


def marks_on(lot, line):
    """The marks on a line of the lot: its points, each counted by its number less 1."""
    need_lot_and_line(lot, line)
    if line not in lot:
        raise InvalidOperation("the line is not in the lot")
    return marks_in(lot, line)


def triples_on(lot, line):
    """The dict from the spots on a line that is not in the lot to the triples of the lines that meet it there."""
    need_lot_and_line(lot, line)
    if line in lot:
        raise InvalidOperation("the line is in the lot")
    return triples_in(lot, line)
