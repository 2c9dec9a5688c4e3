"""A shell: a desk that is used by commands in words."""

from tangentrows.desk.desks import Desk
from tangentrows.desk.promises import does_hold, paper_against
from tangentrows.errors import InvalidNumber, InvalidOperation, NothingToUndo, Refused, TangentError, TooMany
from tangentrows.errors import UnknownName
from tangentrows.form.texts import integer_span
from tangentrows.free.free import degrees_of
from tangentrows.press.pairs import degrees_on
from tangentrows.text.formats import write_lot

MAX_LINE = 2000
MAX_LINES = 100
DIGITS_OF_TRIPLE = 9
DIGITS_OF_NUMBER = 3
# For each word the kinds of the pieces behind it: a triple (T), a number (N), or a promise (P); small letters may fail.
COMMANDS = {
    "show": "", "put": "T", "take": "T", "led": "TTT", "promise": "P", "drop": "P", "promises": "", "undo": "n",
    "open": "", "end": "", "cancel": "", "ask": "P", "why": "P", "rest": "", "degrees": "t",
}
PROMISES = {"free": "", "degrees": "NN", "pressed": "TNN", "most": "N", "modular": "T"}


def is_command(value):
    """Whether the value is a command."""
    if not isinstance(value, str) or len(value) > MAX_LINE:
        return False
    return all([" " <= letter <= "~" for letter in value])


def is_integer_text(text, most):
    """Whether the text is an integer of at most so many digits."""
    is_right, end = integer_span(text, 0, most)
    return is_right and end == len(text)


def read_triple(piece):
    """The three integers of a piece, or None for other pieces."""
    parts = piece.split(",")
    if len(parts) != 3 or not all([is_integer_text(part, DIGITS_OF_TRIPLE) for part in parts]):
        return None
    return tuple([int(part) for part in parts])


def read_number(piece):
    """The integer from 0 to 999 of a piece, or None for other pieces."""
    return int(piece) if is_integer_text(piece, DIGITS_OF_NUMBER) and not piece.startswith("-") else None


def read_piece(kind, piece):
    """The value of a piece of a kind, or None if it is of another one."""
    return read_triple(piece) if kind in ("T", "t") else read_number(piece)


def shape_of(pieces):
    """How many pieces are right words, and the kinds of those behind them; None where a right word is missing."""
    word = pieces[0]
    if word not in COMMANDS:
        return 0, None
    if COMMANDS[word] != "P":
        return 1, COMMANDS[word]
    if len(pieces) == 1 or pieces[1] not in PROMISES:
        return 1, None
    return 2, PROMISES[pieces[1]]


def wrong_at(pieces):
    """The index of the first piece that cannot stand there, or how many there are if some are missing; else None."""
    start, kinds = shape_of(pieces)
    if kinds is None:
        return start
    told = pieces[start:]
    for at, piece in enumerate(told):
        if at >= len(kinds) or read_piece(kinds[at], piece) is None:
            return start + at
    needed = len([kind for kind in kinds if kind.isupper()])
    return len(pieces) if len(told) < needed else None


def values_of(pieces):
    """The tuple of the values of the pieces behind the first word; a promise is one value."""
    start, kinds = shape_of(pieces)
    values = tuple([read_piece(kind, piece) for kind, piece in zip(kinds, pieces[start:])])
    return ((pieces[1], *values),) if start == 2 else values


def write_part(part):
    """The piece of a part of a promise."""
    return ",".join([str(number) for number in part]) if isinstance(part, tuple) else str(part)


def write_promise(promise):
    """The pieces of a promise."""
    return " ".join([write_part(part) for part in promise])


def write_degrees(pair):
    """Two degrees, or that there are none."""
    return "not free" if pair is None else f"{pair[0]} {pair[1]}"


def write_version(version):
    """What is told of the version of a desk."""
    return f"version {version}"


def write_refusal(reason):
    """What is told of a deed that fails, or of a promise that would be broken."""
    return f"failed {reason[2]}" if reason[0] == "deed" else f"broken {write_promise(reason[1])}"


def do_deed(shell, deed):
    """Do a deed, or take it into the open batch."""
    if shell._batch is None:
        return write_version(shell._desk.do((deed,)))
    shell._batch.put(deed)
    return "taken"


def do_batch(shell, word):
    """Open, end or drop the batch."""
    if word == "open":
        shell._batch = shell._desk.batch()
        return word
    batch = shell._batch
    # An end that is refused closes the batch, too.
    shell._batch = None
    if word == "end":
        return write_version(batch.end())
    batch.drop()
    return "dropped"


def do_promises(shell, word, values):
    """Change the promises or the version of the desk."""
    desk = shell._desk
    if word == "promise":
        return "new" if desk.promise(values[0]) else "there"
    if word == "drop":
        return write_version(desk.drop(values[0]))
    return write_version(desk.undo(values[0]) if values else desk.undo())


def tell(lot, word, values):
    """What is told of a lot."""
    if word == "show":
        return write_lot(lot)
    if word == "rest":
        return str(lot.rest)
    if word == "degrees":
        return write_degrees(degrees_on(lot, values[0]) if values else degrees_of(lot))
    if word == "ask":
        return "yes" if does_hold(lot, values[0]) else "no"
    paper = paper_against(lot, values[0])
    return "holds" if paper is None else paper[0]


def done(shell, word, values):
    """Do what a command tells, and return its answer."""
    if word in ("put", "take"):
        return do_deed(shell, (word, values[0]))
    if word == "led":
        return do_deed(shell, (word, values))
    if word in ("open", "end", "cancel"):
        return do_batch(shell, word)
    if word in ("promise", "drop", "undo"):
        return do_promises(shell, word, values)
    if word == "promises":
        return ", ".join([write_promise(promise) for promise in shell.promises]) or "none"
    return tell(shell.lot, word, values)


def tried(shell, word, values):
    """Do what a command tells, and return its answer, also if it is refused."""
    try:
        return done(shell, word, values)
    except Refused as error:
        return write_refusal(error.reason)
    except TooMany:
        return "too many"
    except NothingToUndo:
        return "no more"
    except UnknownName:
        return "unknown"
    except (TangentError, InvalidNumber):
        return "invalid"


class Shell:
    """A shell with a desk of its own, and at most one open batch of it."""

    def __init__(self, lot):
        self._desk = Desk(lot)
        self._batch = None
        self._said = []

    @property
    def lot(self):
        """The lot of the open batch, or that of the desk if none is open."""
        return self._desk.lot if self._batch is None else self._batch.lot

    @property
    def promises(self):
        """The promises of the desk."""
        return self._desk.promises

    @property
    def version(self):
        """The version of the desk."""
        return self._desk.version

    def say(self, command):
        """Do what a command tells, and return its answer."""
        if not is_command(command):
            raise InvalidOperation("no command")
        self._said.append(command)
        pieces = command.split()
        if not pieces:
            return ""
        wrong = wrong_at(pieces)
        if wrong is not None:
            return f"wrong at {wrong}"
        if pieces[0] in ("end", "cancel") and self._batch is None:
            return "no batch"
        return tried(self, pieces[0], values_of(pieces))

    def run(self, commands):
        """Say some commands, one behind the other, and return the tuple of their answers."""
        if not isinstance(commands, tuple) or len(commands) > MAX_LINES:
            raise InvalidOperation("no tuple of at most 100 commands")
        if not all([is_command(command) for command in commands]):
            raise InvalidOperation("not all of them are commands")
        return tuple([self.say(command) for command in commands])

    def __len__(self):
        return len(self._said)

    def __str__(self):
        return f"shell over {self.lot.prime} at version {self.version}, {len(self.promises)} promises"
