"""Marks: spots over one prime, each with a count."""

from tangentrows.base.numbers import all_fit, is_integer, made_normal, need_prime, settled
from tangentrows.base.tables import determinant_of_rows, is_square, sent_by
from tangentrows.errors import InvalidMarks, InvalidOperation, InvalidTable, Refused, TooMany
from tangentrows.form.products import linear, product_of

MAX_SPOTS = 13
MAX_COUNT = 12
MAX_TOTAL = 24
MAX_ENTRY = 10 ** 7


def is_small(pair):
    """Whether the integers of a normal pair are not too great for a spot; over primes other than 0 they never are."""
    return max([abs(number) for number in pair]) <= MAX_ENTRY


def is_spot(prime, value):
    """Whether the value is a spot over a prime that was checked."""
    return all_fit(prime, value, 2) and any(value) and made_normal(prime, value) == value and is_small(value)


def need_spot(prime, spot):
    """Raise the error for a spot over a prime that was checked, if it is none."""
    if not is_spot(prime, spot):
        raise InvalidOperation("no spot over the prime")


def need_marks(marks):
    """Raise the error for marks that are none."""
    if not isinstance(marks, Marks):
        raise InvalidMarks("no marks")


def are_counts(prime, value):
    """Whether the value is a dict from spots over a prime that was checked to counts, as marks have them."""
    if not isinstance(value, dict) or len(value) > MAX_SPOTS or not all([is_spot(prime, spot) for spot in value]):
        return False
    if not all([is_integer(count) and 1 <= count <= MAX_COUNT for count in value.values()]):
        return False
    return sum(value.values()) <= MAX_TOTAL


class Marks:
    """Marks, which never change."""

    def __init__(self, prime, counts):
        need_prime(prime)
        if not are_counts(prime, counts):
            raise InvalidMarks("no dict from spots over the prime to their counts")
        self._prime = prime
        self._counts = {spot: counts[spot] for spot in sorted(counts)}

    @property
    def prime(self):
        """The prime."""
        return self._prime

    @property
    def counts(self):
        """The dict from the spots, ascending, to their counts."""
        return {spot: count for spot, count in self._counts.items()}

    @property
    def spots(self):
        """The spots, ascending."""
        return tuple(self._counts)

    @property
    def total(self):
        """The sum of all counts."""
        return sum(self._counts.values())

    @property
    def product(self):
        """The product of the linear forms of all spots, each as often as its spot counts."""
        forms = [linear(self._prime, spot) for spot, count in self._counts.items() for _ in range(count)]
        return product_of(self._prime, 2, tuple(forms))

    def count_at(self, spot):
        """How often a spot counts, 0 if it is none of the marks."""
        need_spot(self._prime, spot)
        return self._counts.get(spot, 0)

    def raised(self, spot):
        """The marks in which a spot counts once more."""
        count = self.count_at(spot)
        if count == MAX_COUNT:
            raise TooMany(MAX_COUNT)
        if count == 0 and len(self._counts) == MAX_SPOTS:
            raise TooMany(MAX_SPOTS)
        if self.total == MAX_TOTAL:
            raise TooMany(MAX_TOTAL)
        counts = self.counts
        counts[spot] = count + 1
        return Marks(self._prime, counts)

    def lowered(self, spot):
        """The marks in which a spot counts once less."""
        if spot not in self:
            raise InvalidOperation("no spot of the marks")
        counts = self.counts
        if counts[spot] == 1:
            del counts[spot]
        else:
            counts[spot] = counts[spot] - 1
        return Marks(self._prime, counts)

    def led(self, table):
        """The marks at the images of the spots."""
        if not is_square(self._prime, table, 2, 2):
            raise InvalidTable("no tuple of two pairs of numbers")
        if settled(self._prime, determinant_of_rows(table)) == 0:
            raise Refused(("flat",))
        counts = {}
        for (a, b), count in self._counts.items():
            over, under = sent_by(self._prime, table, (b, -a))
            counts[made_normal(self._prime, (under, -over))] = count
        if not all([is_small(spot) for spot in counts]):
            raise TooMany(MAX_ENTRY)
        return Marks(self._prime, counts)

    def __contains__(self, x):
        return is_spot(self._prime, x) and x in self._counts

    def __len__(self):
        return len(self._counts)

    def __iter__(self):
        return iter(self._counts)

    def __eq__(self, other):
        return isinstance(other, Marks) and self._prime == other._prime and self._counts == other._counts

    def __str__(self):
        return f"{len(self._counts)} spots, {self.total} in all, over {self._prime}"
