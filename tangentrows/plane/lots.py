"""Lots of lines over one prime."""

from tangentrows.base.numbers import made_normal, need_prime
from tangentrows.base.tables import is_square, sent_by, undone
from tangentrows.errors import InvalidLot, InvalidOperation, InvalidTable, TooMany
from tangentrows.form.products import linear, product_of
from tangentrows.plane.lines import MAX_ENTRY, crossed, fits_line, is_small, lies_on, need_line, need_point

MAX_LINES = 13


def need_lot(lot):
    """Raise the error for a lot that is none."""
    if not isinstance(lot, Lot):
        raise InvalidLot("no lot")


def are_lines(prime, value):
    """Whether the value is a tuple of 1 to 13 unlike lines over a prime that was checked."""
    if not isinstance(value, tuple) or not 1 <= len(value) <= MAX_LINES:
        return False
    return all([fits_line(prime, line) for line in value]) and len(set(value)) == len(value)


def lines_through(prime, lines):
    """The dict from the meets of ascending lines, ascending, to the ascending tuples of the lines through them."""
    meets = {}
    for at, one in enumerate(lines):
        for other in lines[at + 1:]:
            meets[crossed(prime, one, other)] = True
    return {point: tuple([line for line in lines if lies_on(prime, point, line)]) for point in sorted(meets)}


class Lot:
    """A lot, which never changes."""

    def __init__(self, prime, lines):
        need_prime(prime)
        if not are_lines(prime, lines):
            raise InvalidLot("no tuple of 1 to 13 unlike lines over the prime")
        self._prime = prime
        self._lines = tuple(sorted(lines))
        self._through = lines_through(prime, self._lines)

    @property
    def prime(self):
        """The prime."""
        return self._prime

    @property
    def lines(self):
        """The lines, ascending."""
        return self._lines

    @property
    def many(self):
        """How many lines there are."""
        return len(self._lines)

    @property
    def points(self):
        """The points, ascending."""
        return tuple(self._through)

    @property
    def second(self):
        """The sum of the numbers less 1 of all points."""
        return sum([len(lines) - 1 for lines in self._through.values()])

    @property
    def rest(self):
        """The second number less the number of the lines less 1."""
        return self.second - (self.many - 1)

    @property
    def squares(self):
        """The sum of the squares of the numbers less 1 of all points."""
        return sum([(len(lines) - 1) ** 2 for lines in self._through.values()])

    @property
    def factors(self):
        """The numbers of t * t - (n - 1) * t + c."""
        return (1, 1 - self.many, self.rest)

    @property
    def product(self):
        """The product of the linear forms of all lines."""
        return product_of(self._prime, 3, tuple([linear(self._prime, line) for line in self._lines]))

    @property
    def is_bundle(self):
        """Whether all lines go through one point."""
        return len(self._through) <= 1

    def lines_at(self, point):
        """The lines of the lot through a point of the plane, ascending."""
        need_point(self._prime, point)
        return tuple([line for line in self._lines if lies_on(self._prime, point, line)])

    def number_at(self, point):
        """How many lines of the lot go through a point of the plane."""
        return len(self.lines_at(point))

    def points_on(self, line):
        """The points of the lot on one of its lines, or the meets of its lines with another line, ascending."""
        need_line(self._prime, line)
        if line in self._lines:
            return tuple([point for point in self._through if lies_on(self._prime, point, line)])
        return tuple(sorted(set([crossed(self._prime, line, other) for other in self._lines])))

    def with_line(self, line):
        """The lot with a line more."""
        need_line(self._prime, line)
        if line in self._lines:
            raise InvalidOperation("the line is in the lot")
        if self.many == MAX_LINES:
            raise TooMany(MAX_LINES)
        return Lot(self._prime, (*self._lines, line))

    def without_line(self, line):
        """The lot with a line less."""
        need_line(self._prime, line)
        if line not in self._lines:
            raise InvalidOperation("the line is not in the lot")
        if self.many == 1:
            raise InvalidOperation("no line would be left")
        return Lot(self._prime, tuple([other for other in self._lines if other != line]))

    def part(self, lines):
        """The lot of some of the lines."""
        if not are_lines(self._prime, lines) or tuple(sorted(lines)) != lines:
            raise InvalidOperation("no ascending tuple of lines")
        if not all([line in self._lines for line in lines]):
            raise InvalidOperation("some lines are not in the lot")
        return Lot(self._prime, lines)

    def led(self, table):
        """The lot to whose lines a table leads these lines."""
        if not is_square(self._prime, table, 3, 3):
            raise InvalidTable("no table of three rows of three numbers")
        # A line takes the values at the led points that it had ahead of it, so the table that leads back leads it.
        back = undone(self._prime, table)
        columns = [[row[at] for row in back] for at in range(3)]
        lines = [made_normal(self._prime, sent_by(self._prime, columns, line)) for line in self._lines]
        if not all([is_small(line) for line in lines]):
            raise TooMany(MAX_ENTRY)
        return Lot(self._prime, tuple(lines))

    def __or__(self, other):
        if not isinstance(other, Lot):
            return NotImplemented
        if self._prime != other._prime:
            raise InvalidLot("the lots have unlike primes")
        more = [line for line in other._lines if line not in self._lines]
        if self.many + len(more) > MAX_LINES:
            raise TooMany(MAX_LINES)
        return Lot(self._prime, (*self._lines, *more))

    def __contains__(self, x):
        return fits_line(self._prime, x) and x in self._lines

    def __len__(self):
        return len(self._lines)

    def __iter__(self):
        return iter(self._lines)

    def __eq__(self, other):
        return isinstance(other, Lot) and self._prime == other._prime and self._lines == other._lines

    def __str__(self):
        return f"lot of {self.many} lines over {self._prime}"
