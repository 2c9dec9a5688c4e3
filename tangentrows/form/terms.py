"""Reckoning with tables of terms, which are dicts from exponents to numbers other than 0.

The primes and the tables that are passed were checked, and the numbers can have any size.
"""

from tangentrows.base.numbers import all_fit, fits, inverse_of, made_normal, settled

# More than any exponent that comes up, so that exponents can be added as one integer.
SPAN = 1 << 16


def degree_of(table):
    """The degree of all terms, or None without terms."""
    for exponents in table:
        return sum(exponents)
    return None


def exponents_of(letters, degree):
    """The exponents of all terms of a degree in one letter or more, descending."""
    if letters == 1:
        return [(degree,)]
    found = []
    for first in range(degree, -1, -1):
        for others in exponents_of(letters - 1, degree - first):
            found.append((first, *others))
    return found


def are_exponents(letters, value):
    """Whether the value is a tuple of an integer of at least 0 for each letter."""
    return all_fit(0, value, letters) and min(value) >= 0


def are_terms(prime, letters, most, value):
    """Whether the value is a dict of terms of one degree, which is no more than the most."""
    if not isinstance(value, dict) or not all([are_exponents(letters, exponents) for exponents in value]):
        return False
    if not all([fits(prime, number) and number != 0 for number in value.values()]):
        return False
    degrees = [sum(exponents) for exponents in value]
    return not degrees or min(degrees) == max(degrees) <= most


def descending(table):
    """A copy with descending exponents."""
    return {exponents: table[exponents] for exponents in sorted(table, reverse=True)}


def without_zeros(prime, sums):
    """The sums that are not 0 over the prime."""
    if prime:
        return {exponents: number % prime for exponents, number in sums.items() if number % prime != 0}
    return {exponents: number for exponents, number in sums.items() if number != 0}


def scaled(prime, table, times):
    """The terms, each multiplied by an integer."""
    return without_zeros(prime, {exponents: number * times for exponents, number in table.items()})


def added(prime, one, other):
    """The sum of both."""
    sums = {exponents: number for exponents, number in one.items()}
    for exponents, number in other.items():
        sums[exponents] = sums.get(exponents, 0) + number
    return without_zeros(prime, sums)


def packed(exponents):
    """The exponents as one integer; sums of exponents become sums of these integers."""
    code = 0
    for exponent in exponents:
        code = code * SPAN + exponent
    return code


def unpacked(letters, code):
    """The exponents that were packed, of two or three letters."""
    if letters == 2:
        return code // SPAN, code % SPAN
    return code // SPAN // SPAN, code // SPAN % SPAN, code % SPAN


def multiplied(prime, letters, one, other):
    """The product of both."""
    pairs = [(packed(exponents), number) for exponents, number in other.items()]
    sums = {}
    for exponents, times in one.items():
        start = packed(exponents)
        for shift, number in pairs:
            sums[start + shift] = sums.get(start + shift, 0) + times * number
    kept = without_zeros(prime, sums)
    return {unpacked(letters, code): number for code, number in kept.items()}


def unit(letters):
    """The terms of the form 1."""
    return {(0,) * letters: 1}


def raised_to(prime, letters, table, most):
    """The list of the powers of some terms, from the power 0 to the power that is told."""
    powers = [unit(letters)]
    for at in range(most):
        powers.append(multiplied(prime, letters, powers[at], table))
    return powers


def value_of(prime, table, numbers):
    """The value with these numbers for the letters."""
    most = degree_of(table)
    powers = []
    for number in numbers:
        row = [1]
        for at in range(most or 0):
            row.append(settled(prime, row[at] * number))
        powers.append(row)
    total = 0
    for exponents, number in table.items():
        part = number
        for at, exponent in enumerate(exponents):
            part = part * powers[at][exponent]
        total = total + part
    return settled(prime, total)


def slope_of(prime, table, at):
    """The derivative by the letter with this index."""
    found = {}
    for exponents, number in table.items():
        if exponents[at] > 0:
            found[exponents[:at] + (exponents[at] - 1,) + exponents[at + 1:]] = number * exponents[at]
    return without_zeros(prime, found)


def quotient(prime, number, other):
    """The number whose product with the other one is the number, or None if there is none."""
    if prime:
        return number * inverse_of(prime, other) % prime
    return None if number % other else number // other


def divided(prime, table, other):
    """The terms whose product with the other ones, of which there are some, are the terms; None without such terms."""
    lead = max(other)
    rest = {exponents: number for exponents, number in table.items()}
    found = {}
    for exponents in exponents_of(len(lead), degree_of(table) or 0):
        number = rest.get(exponents, 0)
        if number == 0:
            continue
        shift = tuple([here - there for here, there in zip(exponents, lead)])
        times = quotient(prime, number, other[lead])
        if min(shift) < 0 or times is None:
            return None
        found[shift] = times
        for place, factor in other.items():
            both = tuple([here + there for here, there in zip(place, shift)])
            rest[both] = settled(prime, rest.get(both, 0) - times * factor)
    return found


def normal_terms(prime, table):
    """The terms, multiplied so that their numbers are normal, descending."""
    places = sorted(table, reverse=True)
    if not places:
        return {}
    numbers = made_normal(prime, [table[exponents] for exponents in places])
    return {exponents: number for exponents, number in zip(places, numbers)}


def parts_of(table):
    """For each exponent of the first letter the terms with it, without that letter."""
    parts = {}
    for exponents, number in table.items():
        first = exponents[0]
        if first not in parts:
            parts[first] = {}
        parts[first][exponents[1:]] = number
    return parts


def nested(prime, letters, table, images, powers):
    """The terms with the images in the place of all letters but the last one, and with its powers, as Horner tells."""
    total = {}
    if not images:
        for exponents, number in table.items():
            total = added(prime, total, scaled(prime, powers[exponents[0]], number))
        return total
    parts = parts_of(table)
    for exponent in range(max(parts), -1, -1):
        total = multiplied(prime, letters, total, images[0])
        if exponent in parts:
            total = added(prime, total, nested(prime, letters, parts[exponent], images[1:], powers))
    return total


def replaced(prime, letters, table, images):
    """The terms with images, which are terms in so many letters, in the place of their letters."""
    if not table:
        return {}
    most = max([exponents[-1] for exponents in table])
    return nested(prime, letters, table, images[:-1], raised_to(prime, letters, images[-1], most))
