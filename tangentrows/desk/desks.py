"""Desks: lots that change by deeds and keep promises. Only desks and their batches change."""

from tangentrows.base.numbers import is_integer, need_between
from tangentrows.base.tables import is_square
from tangentrows.desk.promises import fits_promise, found_paper, holds, need_promise
from tangentrows.errors import InvalidNumber, InvalidOperation, NothingToUndo, Refused, TooMany, UnknownName
from tangentrows.plane.lines import fits_line
from tangentrows.plane.lots import MAX_LINES, need_lot

MAX_PROMISES = 8
MAX_DEEDS = 20


def is_deed(prime, value):
    """Whether the value is a deed over a prime that was checked."""
    if not isinstance(value, tuple) or len(value) != 2:
        return False
    if value[0] == "led":
        return is_square(prime, value[1], 3, 3)
    return value[0] in ("put", "take") and fits_line(prime, value[1])


def are_deeds(prime, value):
    """Whether the value is a tuple of 1 to 20 deeds over a prime that was checked."""
    if not isinstance(value, tuple) or not 1 <= len(value) <= MAX_DEEDS:
        return False
    return all([is_deed(prime, deed) for deed in value])


def failure(lot, deed):
    """The word with which putting or taking a line fails, or None if it does not."""
    word, line = deed
    if word == "put":
        if line in lot:
            return "there"
        return "many" if lot.many == MAX_LINES else None
    if line not in lot:
        return "missing"
    return "last" if lot.many == 1 else None


def led_or_word(lot, table):
    """The lot that a table leads a lot to, and None; or None, and the word with which this fails."""
    try:
        return lot.led(table), None
    except Refused:
        return None, "flat"
    except TooMany:
        return None, "great"


def lot_or_word(lot, deed):
    """The lot behind a deed, and None; or None, and the word with which the deed fails."""
    if deed[0] == "led":
        return led_or_word(lot, deed[1])
    word = failure(lot, deed)
    if word is not None:
        return None, word
    return lot.with_line(deed[1]) if deed[0] == "put" else lot.without_line(deed[1]), None


def lot_behind(lot, deed, index):
    """The lot behind a deed, of which the error for one that fails tells the index."""
    behind, word = lot_or_word(lot, deed)
    if behind is None:
        raise Refused(("deed", index, word))
    return behind


def need_kept(lot, promise):
    """Raise the error for a promise that does not hold for a lot."""
    paper = found_paper(lot, promise)
    if paper is not None:
        raise Refused(("broken", promise, paper))


class Desk:
    """A desk with a lot and promises about it."""

    def __init__(self, lot):
        need_lot(lot)
        self._lot = lot
        self._promises = ()
        self._past = []
        self._batch = None

    @property
    def lot(self):
        """The lot."""
        return self._lot

    @property
    def promises(self):
        """The promises, in the order in which they were made."""
        return self._promises

    @property
    def version(self):
        """The number of the version."""
        return len(self._past)

    def need_no_batch(self):
        """Raise the error while a batch of the desk is open."""
        if self._batch is not None and self._batch.is_open:
            raise InvalidOperation("a batch of the desk is open")

    def lot_behind_all(self, deeds):
        """The lot behind some deeds."""
        if not are_deeds(self._lot.prime, deeds):
            raise InvalidOperation("no tuple of 1 to 20 deeds")
        lot = self._lot
        for index, deed in enumerate(deeds):
            lot = lot_behind(lot, deed, index)
        return lot

    def settle(self, lot):
        """Take another lot, if all promises hold for it, and return the version."""
        if lot != self._lot:
            for promise in self._promises:
                need_kept(lot, promise)
            self.go_on(lot, self._promises)
        return self.version

    def go_on(self, lot, promises):
        """Begin the next version."""
        self._past.append((self._lot, self._promises))
        self._lot = lot
        self._promises = promises

    def do(self, deeds):
        """Do deeds in their order, and return the version."""
        self.need_no_batch()
        return self.settle(self.lot_behind_all(deeds))

    def would(self, deeds):
        """The promises that do not hold for the lot behind some deeds."""
        lot = self.lot_behind_all(deeds)
        return tuple([promise for promise in self._promises if not holds(lot, promise)])

    def promise(self, promise):
        """Put a promise behind the others, and return whether it is new."""
        self.need_no_batch()
        need_promise(self._lot, promise)
        need_kept(self._lot, promise)
        if promise in self._promises:
            return False
        if len(self._promises) == MAX_PROMISES:
            raise TooMany(MAX_PROMISES)
        self.go_on(self._lot, (*self._promises, promise))
        return True

    def drop(self, promise):
        """Take a promise out, and return the version."""
        self.need_no_batch()
        need_promise(self._lot, promise)
        if promise not in self._promises:
            raise UnknownName(promise)
        self.go_on(self._lot, tuple([other for other in self._promises if other != promise]))
        return self.version

    def undo(self, count=1):
        """Go so many versions back for good, and return the version."""
        self.need_no_batch()
        if not is_integer(count) or count < 1:
            raise InvalidNumber(count)
        if count > self.version:
            raise NothingToUndo(count)
        version = self.version - count
        self._lot, self._promises = self._past[version]
        self._past = self._past[:version]
        return version

    def at(self, version):
        """A new desk with the lot and the promises of a version."""
        need_between(version, 0, self.version)
        states = [*self._past, (self._lot, self._promises)]
        lot, promises = states[version]
        desk = Desk(lot)
        desk._promises = promises
        return desk

    def batch(self):
        """A new batch of the desk, which is open."""
        self.need_no_batch()
        batch = Batch(self)
        self._batch = batch
        return batch

    def __contains__(self, x):
        return fits_promise(self._lot.prime, x) and x in self._promises

    def __len__(self):
        return len(self._promises)

    def __iter__(self):
        return iter(self._promises)

    def __eq__(self, other):
        return isinstance(other, Desk) and self._lot == other._lot and self._promises == other._promises

    def __str__(self):
        return f"desk of {self._lot.many} lines over {self._lot.prime}, {len(self._promises)} promises"


class Batch:
    """A batch of deeds, which are done together. Only a desk makes it."""

    def __init__(self, desk):
        self._desk = desk
        self._lot = desk.lot
        self._taken = 0
        self._live = True

    @property
    def lot(self):
        """The lot behind the deeds."""
        return self._lot

    @property
    def is_open(self):
        """Whether the batch is open."""
        return self._live

    def need_open(self):
        """Raise the error for a batch that is closed."""
        if not self._live:
            raise InvalidOperation("the batch is closed")

    def put(self, deed):
        """Take a further deed, and return how many there are then."""
        self.need_open()
        if not is_deed(self._lot.prime, deed):
            raise InvalidOperation("no deed over the prime")
        self._lot = lot_behind(self._lot, deed, self._taken)
        self._taken = self._taken + 1
        return self._taken

    def end(self):
        """Close the batch, do its deeds, and return the version of the desk."""
        self.need_open()
        self._live = False
        return self._desk.settle(self._lot)

    def drop(self):
        """Close the batch; nothing is done."""
        self.need_open()
        self._live = False

    def __enter__(self):
        self.need_open()
        return self

    def __exit__(self, kind, value, trace):
        self._live = False
