"""Texts of terms. The letters are passed as a string with a character for each of them."""

MOST_DIGITS = 60
CHUNK = 10 ** 60
DIGITS = "0123456789"


def digits_of(number):
    """The digits of an integer of at least 0 and of any size."""
    # Python itself refuses to write integers of more than some thousands of digits.
    pieces = []
    while number >= CHUNK:
        pieces.append(str(number % CHUNK).zfill(MOST_DIGITS))
        number = number // CHUNK
    pieces.append(str(number))
    return "".join(pieces[::-1])


def write_term(letters, exponents, number):
    """The text of a term without a sign."""
    pieces = []
    for letter, exponent in zip(letters, exponents):
        if exponent > 0:
            pieces.append(letter if exponent == 1 else f"{letter}^{exponent}")
    if number not in (1, -1) or not pieces:
        pieces = [digits_of(abs(number)), *pieces]
    return "".join(pieces)


def write_terms(letters, table):
    """The text of a table of terms."""
    pieces = []
    for exponents in sorted(table, reverse=True):
        number = table[exponents]
        if pieces:
            pieces.append(" - " if number < 0 else " + ")
        elif number < 0:
            pieces.append("-")
        pieces.append(write_term(letters, exponents, number))
    return "".join(pieces) if pieces else "0"


def digits_at(text, start, most):
    """The digits that stand from an index on, but no more than the most."""
    end = start
    while end < len(text) and end - start < most and text[end] in DIGITS:
        end = end + 1
    return text[start:end]


def integer_span(text, start, most):
    """Whether an integer of at most so many digits stands from an index on, and the index behind it.

    If none does, the index is that of the first character with which none goes on.
    """
    at = start + 1 if text[start:start + 1] == "-" else start
    if text[at:at + 1] == "0":
        return (True, at + 1) if at == start else (False, at)
    digits = digits_at(text, at, most)
    return digits != "", at + len(digits)


def read_term(letters, text):
    """The pair (exponents, number) of the text of a term, perhaps with a minus; any such pair for other texts."""
    at = 1 if text.startswith("-") else 0
    digits = digits_at(text, at, MOST_DIGITS)
    number = int(digits or "1")
    place = at + len(digits)
    exponents = []
    for letter in letters:
        exponent = 0
        if text[place:place + 1] == letter:
            exponent, place = 1, place + 1
            if text[place:place + 1] == "^":
                digits = digits_at(text, place + 1, 2)
                exponent, place = int(digits or "0"), place + 1 + len(digits)
        exponents.append(exponent)
    return tuple(exponents), (-number if at else number)


def read_terms(letters, text):
    """The table of the terms of a text.

    It is also made of a text that is none: the text was one only if the text of this table is the same again.
    """
    if text == "0":
        return {}
    table = {}
    for piece in text.replace(" - ", " + -").split(" + "):
        exponents, number = read_term(letters, piece)
        table[exponents] = number
    return table
