"""What several tests need: errors with what they keep, wrong values, and the printed examples."""

from tangentrows import errors
from tangentrows.desk.desks import Desk
from tangentrows.form.forms import Form
from tangentrows.mark.marks import Marks
from tangentrows.plane.lots import Lot
from tangentrows.text.shell import Shell
from tangentrows.web.webs import Web

KEPT = {"InvalidNumber": "given", "UnknownName": "wanted", "TooMany": "most", "Refused": "reason",
        "NothingToUndo": "steps", "ParseError": "index"}
OWN = [name for name in vars(errors) if isinstance(getattr(errors, name), type)]
NOTHING = "nothing kept"


def kept_by(error):
    """What an error of the package keeps."""
    name = KEPT.get(type(error).__name__)
    return NOTHING if name is None else getattr(error, name)


def is_same(one, other):
    """Whether two values are equal and of equal kinds throughout; so True is not 1."""
    if type(one) is not type(other):
        return False
    if isinstance(one, (tuple, list)):
        return len(one) == len(other) and all(is_same(a, b) for a, b in zip(one, other))
    return one == other


def outcome(call, *values):
    """The result of a call, or the name of its error and what that keeps."""
    try:
        return "returned", call(*values)
    except Exception as error:
        return type(error).__name__, kept_by(error)


class Checks:
    """Further assertions for a test case."""

    def assert_raises(self, error, call, *values):
        """The call raises just an error like this one, an error object or a class that keeps nothing."""
        if isinstance(error, type):
            name, kept = error.__name__, NOTHING
        else:
            name, kept = type(error).__name__, kept_by(error)
        told, found = outcome(call, *values)
        self.assertEqual(told, name, (call, values, found))
        if kept != NOTHING or name in KEPT:
            self.assertTrue(is_same(found, kept), (call, values, found, kept))

    def assert_same(self, one, other):
        """Both are equal, also in the kinds of their parts."""
        self.assertTrue(is_same(one, other), (one, other))


def deep(value, depth):
    """The value in so many lists and tuples."""
    for at in range(depth):
        value = [value] if at % 2 else (value,)
    return value


def wrong_values():
    """Values of all kinds that callers can pass; most are wrong at most places."""
    return [
        None, True, False, -1, 1, 4, 41, 10 ** 59, 10 ** 60, -10 ** 60, 10 ** 99, "", "0", "x", "z", "2:", "a\tb\n",
        "~" * 3000, (), [], {}, ((),), [[]], (1,), (1, 0), [1, 0], (1, 0, 0), [1, 0, 0], (True, 0), (True, 0, 0),
        (0, 0), (0, 0, 0), (2, 0, 0), (-1, 0, 0), (1, 0, 0, 0), (None, None, None), ("x", "y", "z"),
        (10 ** 60, 1), (1, 10 ** 60, 1), ((1, 0, 0),) * 3, ((1, 0), (0, 1)), [(1, 0), (0, 1)], ([1, 0], [0, 1]),
        ((1, 0), (0,)), ((True, 0), (0, 1)), {(1, 0): 1}, {(1, 0): True}, {(True, 0): 1}, {"x": 1}, {None: None},
        {(1, 0): 0}, deep(1, 8), deep((1, 0, 0), 7), deep({"x": [None]}, 6), ((1, 0, 0), [0, 1, 0]),
        Form(0, 2), Form(5, 3, {(1, 0, 0): 2}), (Form(0, 2), Form(0, 2)), [Form(0, 2)], {"form": Form(0, 3)},
        Lot(0, ((1, 0, 0),)), (Lot(0, ((1, 0, 0),)),), Lot(2, ((0, 1, 1), (1, 0, 0))), errors.InvalidForm("it"),
        Marks(0, {(1, 0): 2, (0, 1): 1}), (Marks(5, {}),), ((Form(0, 2), Form(0, 2)),) * 2, (Form(5, 3),) * 3,
        (Form(0, 3, {(1, 0, 0): 1}), Form(0, 3), Form(0, 3)), Web(((1, 2), (3, 4))), (Web(((1, 4),)),), Desk(Lot(0, ((1, 0, 0),))),
        Desk(Lot(0, ((0, 1, 0),))).batch(), Shell(Lot(0, ((0, 0, 1),))),
    ]


def parts_of(text):
    """The statements of a text of examples, each with the lines that are expected behind it."""
    found = []
    for line in text.strip().split("\n"):
        if line.startswith(">>> "):
            found.append(([line[4:]], []))
        elif line.startswith("... "):
            found[-1][0].append(line[4:])
        else:
            found[-1][1].append(line)
    return [("\n".join(said), "\n".join(told)) for said, told in found]


def check_examples(case, names, text):
    """Run examples as the document prints them, with these names."""
    for said, told in parts_of(text):
        with case.subTest(said):
            if not told:
                exec(said, names)
            elif told.startswith("raises "):
                expected = eval(told[len("raises "):], names)
                case.assert_raises(expected, lambda: eval(said, names))
            else:
                case.assertEqual(repr(eval(said, names)), told)
