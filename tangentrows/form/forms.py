"""Forms in two or three letters over a prime."""

from tangentrows.base.numbers import all_fit, fits, is_integer, need_between, need_prime
from tangentrows.errors import InvalidForm, InvalidNumber, InvalidOperation, ParseError, Refused, TooMany, UnknownName
from tangentrows.form.terms import added, are_exponents, are_terms, degree_of, descending, divided, exponents_of
from tangentrows.form.terms import multiplied, normal_terms, replaced, scaled, slope_of, unit, value_of
from tangentrows.form.texts import read_terms, write_terms

MAX_DEGREE = 40
LETTERS = "xyz"


def need_letters(letters):
    """Raise the error for a number of letters other than 2 and 3."""
    if not is_integer(letters) or letters not in (2, 3):
        raise InvalidNumber(letters)


def need_form(form):
    """Raise the error for a form that is none."""
    if not isinstance(form, Form):
        raise InvalidForm("no form")


def is_form(prime, letters, value):
    """Whether the value is a form over this prime in so many letters."""
    return isinstance(value, Form) and value.prime == prime and value.letters == letters


def need_alike(form, other):
    """Raise the error for a form that has another prime or another number of letters."""
    if form.prime != other.prime or form.letters != other.letters:
        raise InvalidForm("the forms have unlike primes or unlike letters")


def need_addable(form, other):
    """Raise the errors for a form that cannot be added."""
    need_alike(form, other)
    if form and other and form.degree != other.degree:
        raise InvalidOperation("the forms have unlike degrees")


def need_divisor(form, other):
    """Raise the errors for a value that is no form like the first one."""
    need_form(other)
    need_alike(form, other)


def made(prime, letters, table):
    """A form with terms that were checked, and whose numbers can have more than sixty digits."""
    form = Form(prime, letters)
    form._table = descending(table)
    return form


def degree_of_all(forms):
    """The one degree of all forms that are not zero, -1 if there is none of them, None if there are several degrees."""
    degrees = [form.degree for form in forms if form]
    if not degrees:
        return -1
    return degrees[0] if min(degrees) == max(degrees) else None


def is_nonzero_somewhere(prime, letters, table, images):
    """Whether terms with images in so many letters in the place of theirs have a value other than 0 that comes soon."""
    for probe in exponents_of(letters + 1, 3):
        numbers = probe[:letters]
        if prime == 0 or max(numbers) < prime:
            inner = [value_of(prime, image, numbers) for image in images]
            if value_of(prime, table, inner) != 0:
                return True
    return False


def table_told(prime, letters, value):
    """The table of the form with a text over a prime in so many letters, or None for a value that is no such text."""
    if not isinstance(value, str):
        return None
    names = LETTERS[:letters]
    table = read_terms(names, value)
    return table if are_terms(prime, letters, MAX_DEGREE, table) and write_terms(names, table) == value else None


class Form:
    """A form, which never changes."""

    def __init__(self, prime, letters, table=None):
        need_prime(prime)
        need_letters(letters)
        if table is not None and not are_terms(prime, letters, MAX_DEGREE, table):
            raise InvalidForm("no dict of the terms of a form")
        self._prime = prime
        self._letters = letters
        self._table = descending(table or {})

    @classmethod
    def read(cls, prime, letters, text):
        """The form with a text."""
        need_prime(prime)
        need_letters(letters)
        table = table_told(prime, letters, text)
        if table is None:
            raise ParseError(0)
        return cls(prime, letters, table)

    @property
    def prime(self):
        """The prime."""
        return self._prime

    @property
    def letters(self):
        """How many letters there are."""
        return self._letters

    @property
    def degree(self):
        """The degree, None for zero."""
        return degree_of(self._table)

    @property
    def table(self):
        """The dict from the exponents of all terms, ascending, to their numbers."""
        return {exponents: self._table[exponents] for exponents in sorted(self._table)}

    def __add__(self, other):
        if not isinstance(other, Form):
            return NotImplemented
        need_addable(self, other)
        return made(self._prime, self._letters, added(self._prime, self._table, other._table))

    def __sub__(self, other):
        if not isinstance(other, Form):
            return NotImplemented
        need_addable(self, other)
        less = scaled(self._prime, other._table, -1)
        return made(self._prime, self._letters, added(self._prime, self._table, less))

    def __neg__(self):
        return made(self._prime, self._letters, scaled(self._prime, self._table, -1))

    def __mul__(self, other):
        if isinstance(other, Form):
            need_alike(self, other)
            if self and other and self.degree + other.degree > MAX_DEGREE:
                raise TooMany(MAX_DEGREE)
            return made(self._prime, self._letters, multiplied(self._prime, self._letters, self._table, other._table))
        if not isinstance(other, int) or isinstance(other, bool):
            return NotImplemented
        if not fits(self._prime, other):
            raise InvalidNumber(other)
        return made(self._prime, self._letters, scaled(self._prime, self._table, other))

    def power(self, many):
        """The form, multiplied with itself, so many factors."""
        need_between(many, 0, MAX_DEGREE)
        if self and self.degree * many > MAX_DEGREE:
            raise TooMany(MAX_DEGREE)
        table = unit(self._letters)
        for _ in range(many):
            table = multiplied(self._prime, self._letters, table, self._table)
        return made(self._prime, self._letters, table)

    def at(self, numbers):
        """The value with these numbers for the letters."""
        if not all_fit(self._prime, numbers, self._letters):
            raise InvalidOperation("no tuple of a number for each letter")
        return value_of(self._prime, self._table, numbers)

    def slope(self, name):
        """The derivative by a letter."""
        names = list(LETTERS[:self._letters])
        if not isinstance(name, str) or name not in names:
            raise UnknownName(name)
        return made(self._prime, self._letters, slope_of(self._prime, self._table, names.index(name)))

    def led(self, images):
        """The form with forms in the place of its letters."""
        if not isinstance(images, tuple) or len(images) != self._letters:
            raise InvalidOperation("no tuple of a form for each letter")
        if not all([isinstance(image, Form) and image.prime == self._prime for image in images]):
            raise InvalidOperation("no tuple of forms over the prime")
        letters = images[0].letters
        degree = degree_of_all(images)
        if degree is None or not all([image.letters == letters for image in images]):
            raise InvalidOperation("the forms have unlike letters or unlike degrees")
        tables = [image._table for image in images]
        great = bool(self) and self.degree * degree > MAX_DEGREE
        # A great form is refused unless it is zero; values spare reckoning it in nearly all cases.
        if great and is_nonzero_somewhere(self._prime, letters, self._table, tables):
            raise TooMany(MAX_DEGREE)
        table = replaced(self._prime, letters, self._table, tables)
        if great and table:
            raise TooMany(MAX_DEGREE)
        return made(self._prime, letters, table)

    def over(self, other):
        """The form whose product with the other one this form is."""
        need_divisor(self, other)
        if not other:
            raise InvalidOperation("no form is divided by zero")
        table = divided(self._prime, self._table, other._table)
        if table is None:
            raise Refused(("rest",))
        return made(self._prime, self._letters, table)

    def order_of(self, linear):
        """The greatest exponent of a power of a linear form of which this form is a multiple, None for zero."""
        need_divisor(self, linear)
        if linear.degree != 1:
            raise InvalidOperation("the form is not linear")
        if not self:
            return None
        # Over 0 a multiple of a normal form with fractions is one with integers, up to a factor.
        step = normal_terms(self._prime, linear._table)
        rest = divided(self._prime, self._table, step)
        many = 0
        while rest is not None:
            many = many + 1
            rest = divided(self._prime, rest, step)
        return many

    def cleared(self):
        """The form, multiplied by a number so that its numbers, descending, are normal."""
        return made(self._prime, self._letters, normal_terms(self._prime, self._table))

    def __getitem__(self, at):
        if not are_exponents(self._letters, at):
            raise InvalidOperation("no tuple of an exponent for each letter")
        return self._table.get(at, 0)

    def __iter__(self):
        return iter(self._table.items())

    def __len__(self):
        return len(self._table)

    def __bool__(self):
        return bool(self._table)

    def __eq__(self, other):
        if not isinstance(other, Form):
            return False
        return self._prime == other._prime and self._letters == other._letters and self._table == other._table

    def __str__(self):
        return str(write_terms(LETTERS[:self._letters], self._table))


def monomials(letters, degree):
    """The exponents of all terms of a degree, descending."""
    need_letters(letters)
    need_between(degree, 0, MAX_DEGREE)
    for exponents in exponents_of(letters, degree):
        yield exponents
