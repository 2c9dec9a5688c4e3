"""Integers, primes, and numbers over a prime."""

from math import gcd

from tangentrows.errors import InvalidNumber, InvalidOperation

PRIMES = (2, 3, 5, 7, 11, 13, 17, 19)
MAX_NUMBERS = 140
TOO_GREAT = 10 ** 60


def is_integer(value):
    """Whether the value is an integer of at most sixty digits."""
    return isinstance(value, int) and not isinstance(value, bool) and -TOO_GREAT < value < TOO_GREAT


def is_prime(value):
    """Whether the value is one of the primes of this package, 0 among them."""
    return is_integer(value) and (value == 0 or value in PRIMES)


def need_prime(prime):
    """Raise the error for a prime that is none."""
    if not is_prime(prime):
        raise InvalidNumber(prime)


def need_finite(prime):
    """Raise the error for a prime that is none, or is 0."""
    if not is_prime(prime) or prime == 0:
        raise InvalidNumber(prime)


def need_between(number, least, most):
    """Raise the error for a value that is no integer in these bounds."""
    if not is_integer(number) or not least <= number <= most:
        raise InvalidNumber(number)


def fits(prime, value):
    """Whether the value is a number over a prime that was checked."""
    return is_integer(value) and (prime == 0 or 0 <= value < prime)


def all_fit(prime, value, many):
    """Whether the value is a tuple of so many numbers over a prime that was checked."""
    return isinstance(value, tuple) and len(value) == many and all([fits(prime, one) for one in value])


def is_number(prime, value):
    """Whether the value is a number over the prime."""
    need_prime(prime)
    return fits(prime, value)


def settled(prime, number):
    """The number over the prime that an integer stands for."""
    return number % prime if prime else number


def powers_of(prime, number, most):
    """The list of the powers of a number, from the power 0 to the power that is told."""
    powers = [1]
    for at in range(most):
        powers.append(settled(prime, powers[at] * number))
    return powers


def inverse_of(prime, number):
    """The inverse of a number over a prime, both of which were checked."""
    return [other for other in range(1, prime) if number * other % prime == 1][0]


def inverse(prime, number):
    """The number whose product with the number is 1."""
    need_finite(prime)
    if not fits(prime, number) or number == 0:
        raise InvalidNumber(number)
    return inverse_of(prime, number)


def divisor_of(numbers):
    """The greatest integer that divides some integers of any size; 0 if there is no greatest one."""
    shared = 0
    for number in numbers:
        shared = gcd(shared, number)
        if shared == 1:
            return 1
    return shared


def common_divisor(numbers):
    """The greatest integer that divides all integers of a tuple, or 0."""
    if not isinstance(numbers, tuple) or len(numbers) > MAX_NUMBERS or not all_fit(0, numbers, len(numbers)):
        raise InvalidOperation("no tuple of at most 140 integers")
    return divisor_of(numbers)


def made_normal(prime, numbers):
    """The normal multiple, a tuple, of numbers of any size that are not all 0."""
    first = [number for number in numbers if number != 0][0]
    if prime:
        times = inverse_of(prime, first)
        return tuple([number * times % prime for number in numbers])
    shared = divisor_of(numbers)
    if first < 0:
        shared = -shared
    return tuple([number // shared for number in numbers])


def normal(prime, numbers):
    """The normal tuple of which a tuple of numbers is a multiple."""
    need_prime(prime)
    if not isinstance(numbers, tuple) or len(numbers) > MAX_NUMBERS or not all_fit(prime, numbers, len(numbers)):
        raise InvalidOperation("no tuple of 1 to 140 numbers")
    if not any(numbers):
        raise InvalidOperation("no number other than 0")
    return made_normal(prime, numbers)
