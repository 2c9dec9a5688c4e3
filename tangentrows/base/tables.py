"""Tables of numbers over a prime, reckoned exactly."""

from math import gcd, lcm

from tangentrows.base.numbers import all_fit, divisor_of, made_normal, need_prime, settled
from tangentrows.errors import InvalidOperation, InvalidTable, Refused

MAX_ROWS = 90
MAX_WIDTH = 140
MAX_SQUARE = 6


def is_table(prime, value):
    """Whether the value is a table over a prime that was checked."""
    if not isinstance(value, tuple) or not 1 <= len(value) <= MAX_ROWS or not isinstance(value[0], tuple):
        return False
    width = len(value[0])
    return 1 <= width <= MAX_WIDTH and all([all_fit(prime, row, width) for row in value])


def is_square(prime, value, least, most):
    """Whether the value is a table of least to most rows, with as many numbers in each of them."""
    return is_table(prime, value) and least <= len(value) <= most and len(value[0]) == len(value)


def need_table(prime, table):
    """Raise the error for a prime or a table that is none."""
    need_prime(prime)
    if not is_table(prime, table):
        raise InvalidTable("no table over the prime")


def need_square(prime, table, least, most):
    """Raise the error for a prime that is none, or a table that is none of these sizes."""
    need_prime(prime)
    if not is_square(prime, table, least, most):
        raise InvalidTable("no table of this size over the prime")


def lowered(prime, row, step, at):
    """A multiple of the row less one of the step, which has 0 at the index; the step is normal and begins there."""
    times = row[at]
    if prime:
        return [(here - times * there) % prime for here, there in zip(row, step)]
    shared = gcd(times, step[at])
    times, keep = times // shared, step[at] // shared
    less = [keep * here - times * there for here, there in zip(row, step)]
    # Without this the integers would get about twice as many digits with each further step.
    content = divisor_of(less)
    return [number // content for number in less] if content > 1 else less


def steps_of(prime, rows):
    """A dict of normal mixes of the rows, one for each index at which a mix can begin, by this index."""
    steps = {}
    for row in rows:
        rest = row
        for at in range(len(row)):
            if rest[at] == 0:
                continue
            if at not in steps:
                steps[at] = made_normal(prime, rest)
                break
            rest = lowered(prime, rest, steps[at], at)
    return steps


def without_steps(prime, steps, row):
    """A multiple of the row less a mix of the steps, which has 0 wherever one of the steps begins."""
    rest = row
    for start in sorted(steps):
        if rest[start] != 0:
            rest = lowered(prime, rest, steps[start], start)
    return rest


def rank_of(prime, rows):
    """The rank of rows whose integers can have any size."""
    return len(steps_of(prime, rows))


def echelon_of(prime, rows):
    """The echelon of rows whose integers can have any size."""
    steps = steps_of(prime, rows)
    done = {}
    for start in sorted(steps, reverse=True):
        row = steps[start]
        for later in list(done):
            if row[later] != 0:
                row = lowered(prime, row, done[later], later)
        done[start] = made_normal(prime, row)
    return tuple([done[start] for start in sorted(done)])


def start_of(row):
    """The index of the first number other than 0."""
    return [at for at, number in enumerate(row) if number != 0][0]


def freed(prime, steps, free, width):
    """The tuple that an echelon sends to zeros and that has, of the indices without a step, only this one not 0."""
    starts = [(start_of(row), row) for row in steps]
    whole = 1
    for start, row in starts:
        if row[free] != 0:
            whole = lcm(whole, row[start])
    numbers = [0] * width
    numbers[free] = whole
    for start, row in starts:
        numbers[start] = settled(prime, -row[free] * (whole // row[start]))
    return numbers


def kernel_of(prime, rows, width):
    """The kernel of rows whose integers can have any size."""
    # Steps from the right leave free the very indices at which the rows of the kernel begin.
    steps = echelon_of(prime, [row[::-1] for row in rows])
    starts = [start_of(row) for row in steps]
    found = []
    for free in range(width - 1, -1, -1):
        if free not in starts:
            found.append(made_normal(prime, freed(prime, steps, free, width)[::-1]))
    return tuple(found)


def rank(prime, table):
    """The least number of rows of which all rows are mixes."""
    need_table(prime, table)
    return rank_of(prime, table)


def echelon(prime, table):
    """The echelon of a table."""
    need_table(prime, table)
    return echelon_of(prime, table)


def is_mix(prime, table, value):
    """Whether the value is a mix of the rows."""
    need_table(prime, table)
    if not all_fit(prime, value, len(table[0])):
        return False
    return not any(without_steps(prime, steps_of(prime, table), value))


def kernel(prime, table):
    """The echelon of all tuples that the table sends to zeros."""
    need_table(prime, table)
    return kernel_of(prime, table, len(table[0]))


def sent_by(prime, rows, numbers):
    """What rows of any size of integers send the numbers to."""
    return tuple([settled(prime, sum([one * two for one, two in zip(row, numbers)])) for row in rows])


def sent(prime, table, numbers):
    """The tuple to which the table sends the numbers."""
    need_table(prime, table)
    if not all_fit(prime, numbers, len(table[0])):
        raise InvalidOperation("no tuple of as many numbers as the width")
    return sent_by(prime, table, numbers)


def told_numbers(prime, rows, target):
    """A scale above 0 and a number for each row: the rows times these make the scale times a target, a mix of them."""
    many, width = len(rows), len(target)
    longer = []
    for at, row in enumerate(rows):
        told = [0] * (many + 1)
        told[at] = 1
        longer.append([*row, *told])
    # Steps that begin further on tell only how zeros can be told.
    steps = {start: step for start, step in steps_of(prime, longer).items() if start < width}
    zeros = [0] * many
    rest = without_steps(prime, steps, [*target, *zeros, 1])
    return rest[-1], [settled(prime, -number) for number in rest[width:-1]]


def spread(prime, row, factors):
    """The row, multiplied by each of the factors, one behind the other."""
    return [settled(prime, factor * number) for factor in factors for number in row]


def minor(rows, row, column):
    """The rows without one row and one column."""
    kept = rows[:row] + rows[row + 1:]
    return [one[:column] + one[column + 1:] for one in kept]


def determinant_of_rows(rows):
    """The determinant of a square of integers, without regard to a prime."""
    if len(rows) == 1:
        return rows[0][0]
    total = 0
    for at, number in enumerate(rows[0]):
        if number != 0:
            part = number * determinant_of_rows(minor(rows, 0, at))
            total = total - part if at & 1 else total + part
    return total


def determinant(prime, table):
    """The determinant of a table of 1 to 6 rows."""
    need_square(prime, table, 1, MAX_SQUARE)
    return settled(prime, determinant_of_rows(table))


def undone(prime, table):
    """The normal table that sends back what a table of 2 or 3 rows has sent."""
    need_square(prime, table, 2, 3)
    if settled(prime, determinant_of_rows(table)) == 0:
        raise Refused(("flat",))
    size = len(table)
    numbers = []
    for row in range(size):
        for column in range(size):
            part = determinant_of_rows(minor(table, column, row))
            numbers.append(settled(prime, -part if (row + column) & 1 else part))
    flat = made_normal(prime, numbers)
    return tuple([flat[size * row:size * row + size] for row in range(size)])
