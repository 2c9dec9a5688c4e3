"""Texts of lots, of marks and of forms.

The functions that read a part of a text from an index on return what it tells and the index behind it, and raise the
error with the index of the first character with which no text goes on. Behind a text that ends too early this is its
length, where no character stands.
"""

from tangentrows.base.numbers import PRIMES, need_prime
from tangentrows.errors import InvalidForm, InvalidMarks, ParseError
from tangentrows.form.forms import Form, is_form, need_letters, table_told
from tangentrows.form.texts import MOST_DIGITS, integer_span
from tangentrows.mark.marks import Marks, need_marks
from tangentrows.plane.lots import Lot, need_lot

MAX_FORMS = 20
BETWEEN_FORMS = "; "


def joined(prime, pieces):
    """The prime, a colon, and the pieces behind it."""
    return f"{prime}: " + ", ".join(pieces) if pieces else f"{prime}:"


def write_numbers(numbers):
    """Some integers with a blank between two of them."""
    return " ".join([str(number) for number in numbers])


def behind(text, at, mark):
    """The index behind a character that has to stand at an index."""
    if text[at:at + 1] != mark:
        raise ParseError(at)
    return at + 1


def read_prime(text):
    """The prime with which a text begins."""
    names = [str(prime) for prime in (0, *PRIMES)]
    for end in (1, 2):
        if text[:end] in names:
            return int(text[:end]), end
    raise ParseError(1 if text.startswith("1") else 0)


def read_integer(text, at):
    """An integer of at most sixty digits."""
    is_right, end = integer_span(text, at, MOST_DIGITS)
    if not is_right:
        raise ParseError(end)
    return int(text[at:end]), end


def read_count(text, at):
    """An integer above 0."""
    if text[at:at + 1] in ("-", "0"):
        raise ParseError(at)
    return read_integer(text, at)


def read_entry(text, at, many, is_counted):
    """A tuple of so many integers with a blank ahead of each, and of a count behind them where there is one."""
    numbers = []
    for _ in range(many):
        number, at = read_integer(text, behind(text, at, " "))
        numbers.append(number)
    if is_counted:
        count, at = read_count(text, behind(text, at, "*"))
        numbers.append(count)
    return tuple(numbers), at


def read_entries(text, at, many, is_counted):
    """The list of all entries up to the end of the text, of which there is at least one."""
    entry, at = read_entry(text, at, many, is_counted)
    found = [entry]
    while at < len(text):
        entry, at = read_entry(text, behind(text, at, ","), many, is_counted)
        found.append(entry)
    return found


def need_text(text):
    """Raise the error for a value that is no string."""
    if not isinstance(text, str):
        raise ParseError(None)


def write_lot(lot):
    """The text of a lot."""
    need_lot(lot)
    return joined(lot.prime, [write_numbers(line) for line in lot.lines])


def read_lot(text):
    """The lot with a text."""
    need_text(text)
    prime, at = read_prime(text)
    return Lot(prime, tuple(read_entries(text, behind(text, at, ":"), 3, False)))


def write_marks(marks):
    """The text of marks."""
    need_marks(marks)
    return joined(marks.prime, [f"{write_numbers(spot)}*{count}" for spot, count in marks.counts.items()])


def read_marks(text):
    """The marks with a text."""
    need_text(text)
    prime, at = read_prime(text)
    start = behind(text, at, ":")
    entries = read_entries(text, start, 2, True) if start < len(text) else []
    counts = {entry[:2]: entry[2] for entry in entries}
    if len(counts) != len(entries):
        raise InvalidMarks("a spot is told twice")
    return Marks(prime, counts)


def write_forms(forms):
    """The text of some forms."""
    if not isinstance(forms, tuple) or not 1 <= len(forms) <= MAX_FORMS or not isinstance(forms[0], Form):
        raise InvalidForm("no tuple of 1 to 20 forms")
    if not all([is_form(forms[0].prime, forms[0].letters, form) for form in forms]):
        raise InvalidForm("the forms have unlike primes or unlike letters")
    return BETWEEN_FORMS.join([str(form) for form in forms])


def read_forms(prime, letters, text):
    """The forms with a text."""
    need_prime(prime)
    need_letters(letters)
    need_text(text)
    found = []
    at = 0
    for part in text.split(BETWEEN_FORMS):
        table = table_told(prime, letters, part)
        if table is None or len(found) == MAX_FORMS:
            raise ParseError(at)
        found.append(Form(prime, letters, table))
        at = at + len(part) + len(BETWEEN_FORMS)
    return tuple(found)
