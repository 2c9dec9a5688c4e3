"""Webs of ties between four points, and what they tell of their lots."""

from tangentrows.base.choices import choices
from tangentrows.base.numbers import all_fit, is_integer, need_prime
from tangentrows.errors import InvalidOperation, InvalidWeb, Refused
from tangentrows.plane.lots import Lot

POINTS = (1, 2, 3, 4)
TIES = ((1, 2), (1, 3), (1, 4), (2, 3), (2, 4), (3, 4))
LETTER_TIES = ((1, 2), (1, 3), (2, 3))


def is_tie(value):
    """Whether the value is a tie."""
    return all_fit(0, value, 2) and value in TIES


def are_all_points(value):
    """Whether the value is a tuple that has each of the four points once."""
    return all_fit(0, value, 4) and tuple(sorted(value)) == POINTS


def is_ascending_part(value, whole):
    """Whether the value, a tuple, has some members of an ascending tuple, ascending."""
    return tuple([one for one in whole if one in value]) == value


def need_web(web):
    """Raise the error for a web that is none."""
    if not isinstance(web, Web):
        raise InvalidWeb("no web")


def need_letter_ties(ties):
    """Raise the error for a value that is no ascending tuple of ties between the points 1 to 3."""
    if not isinstance(ties, tuple) or not all([is_tie(tie) for tie in ties]):
        raise InvalidWeb("no tuple of ties")
    if not is_ascending_part(ties, LETTER_TIES):
        raise InvalidWeb("no ascending tuple of ties between the points 1 to 3")


def line_between(prime, one, other, sign):
    """The line of a letter and, if there is an other one, of the sign times this."""
    numbers = [0, 0, 0]
    numbers[one - 1] = 1
    if other <= len(numbers):
        numbers[other - 1] = sign if prime == 0 else sign % prime
    return tuple(numbers)


def tied_to(ties, point):
    """The points that are tied to a point, ascending."""
    return [other for other in POINTS if (point, other) in ties or (other, point) in ties]


def reached_from_first(ties):
    """The points to which one comes from the point 1 along ties."""
    reached = [1]
    for _ in POINTS:
        for one, other in ties:
            if one in reached or other in reached:
                reached = sorted(set([*reached, one, other]))
    return reached


def are_tied(ties, points):
    """Whether each two of some ascending points are tied."""
    return all([pair in ties for pair in choices(tuple(points), 2)])


def order_in(ties):
    """An order of the points of a web with these ties, or None if there is none."""
    left, order = list(POINTS), []
    while left:
        # Whichever point can be the last one of an order can be taken: what is left has an order if the whole has one.
        last = [point for point in left if are_tied(ties, [other for other in tied_to(ties, point) if other in left])]
        if not last:
            return None
        order = [last[-1], *order]
        left = [point for point in left if point != last[-1]]
    return tuple(order)


def counts_ahead(ties, order):
    """For each point of an order but the first one, how many of the points ahead of it are tied to it."""
    found = []
    for at in range(1, len(order)):
        ahead = order[:at]
        found.append(len([other for other in tied_to(ties, order[at]) if other in ahead]))
    return found


class Web:
    """A web, which never changes."""

    def __init__(self, ties):
        if not isinstance(ties, tuple) or not 1 <= len(ties) <= len(TIES) or not all([is_tie(tie) for tie in ties]):
            raise InvalidWeb("no tuple of 1 to 6 ties")
        if len(set(ties)) != len(ties):
            raise InvalidWeb("a tie comes twice")
        self._ties = tuple(sorted(ties))

    @classmethod
    def full(cls, points):
        """The web in which each two of some points are tied."""
        if not isinstance(points, tuple) or len(points) > len(POINTS):
            raise InvalidWeb("no tuple of two to four points")
        # Of points that do not ascend, or of less than two, come no ties of a web.
        return cls(tuple(choices(points, 2)))

    @property
    def ties(self):
        """The ties, ascending."""
        return self._ties

    @property
    def is_whole(self):
        """Whether one comes from each point to each other one along ties."""
        return len(reached_from_first(self._ties)) == len(POINTS)

    def lot_over(self, prime):
        """The lot of the web over a prime."""
        need_prime(prime)
        return Lot(prime, tuple([line_between(prime, one, other, -1) for one, other in self._ties]))

    def with_tie(self, tie):
        """The web with a tie more."""
        if not is_tie(tie) or tie in self._ties:
            raise InvalidOperation("no tie that the web does not have")
        return Web((*self._ties, tie))

    def without_tie(self, tie):
        """The web with a tie less."""
        if not is_tie(tie) or tie not in self._ties:
            raise InvalidOperation("no tie of the web")
        if len(self._ties) == 1:
            raise Refused(("last",))
        return Web(tuple([other for other in self._ties if other != tie]))

    def renamed(self, points):
        """The web with other names of its points."""
        if not are_all_points(points):
            raise InvalidOperation("no tuple that has each of the four points once")
        pairs = [(points[one - 1], points[other - 1]) for one, other in self._ties]
        return Web(tuple([(min(pair), max(pair)) for pair in pairs]))

    def __contains__(self, x):
        return is_tie(x) and x in self._ties

    def __len__(self):
        return len(self._ties)

    def __iter__(self):
        return iter(self._ties)

    def __eq__(self, other):
        return isinstance(other, Web) and self._ties == other._ties

    def __str__(self):
        pieces = [f"{one}-{other}" for one, other in self._ties]
        return " ".join(["web", *pieces])


def each_web():
    """All webs: those with fewer ties first, those with equally many in the order of their ties."""
    for many in range(1, len(TIES) + 1):
        for ties in choices(TIES, many):
            yield Web(ties)


def open_ring(web):
    """The open ring that begins with 1 and whose second point is less than the last one, or None."""
    need_web(web)
    ties = web.ties
    if not all([len(tied_to(ties, point)) == 2 for point in POINTS]):
        return None
    second, last = tied_to(ties, 1)
    third = [point for point in POINTS[1:] if point not in (second, last)][0]
    return 1, second, third, last


def order_of_points(web):
    """An order of the points, or None if there is none."""
    need_web(web)
    return order_in(web.ties)


def is_order_of_points(web, value):
    """Whether the value is an order of the points."""
    need_web(web)
    if not are_all_points(value):
        return False
    ties = web.ties
    for at, point in enumerate(value):
        ahead = value[:at]
        if not are_tied(ties, [other for other in tied_to(ties, point) if other in ahead]):
            return False
    return True


def web_degrees(web):
    """The degrees of the lot of the web, the lesser one first, or None if it is not free."""
    need_web(web)
    ties = web.ties
    order = order_in(ties)
    if order is None:
        return None
    counts = sorted(counts_ahead(ties, order))
    counts.remove(1)
    return tuple(counts)


def signed_lot(prime, minus, plus, halves):
    """The lot of differences and sums of letters, and of letters."""
    need_prime(prime)
    need_letter_ties(minus)
    need_letter_ties(plus)
    if not isinstance(halves, tuple) or not all([is_integer(at) for at in halves]):
        raise InvalidWeb("no tuple of integers")
    if not is_ascending_part(halves, POINTS[:3]):
        raise InvalidWeb("no ascending tuple of integers from 1 to 3")
    if prime == 2 or not (minus or plus or halves):
        raise InvalidOperation("the prime is 2, or there is no line")
    lines = [line_between(prime, one, other, -1) for one, other in minus]
    lines.extend([line_between(prime, one, other, 1) for one, other in plus])
    lines.extend([line_between(prime, at, POINTS[-1], 1) for at in halves])
    return Lot(prime, tuple(lines))
