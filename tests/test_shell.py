"""The shell: [18.5] and [18.6]."""

import random
import unittest

from support import Checks, outcome, wrong_values
from test_deeds import ONE
from test_free import FANO
from test_lots import BRAID, FIVE, PENCIL, X, Y, Z
from test_primes import FAN, PLUS
from test_rows import TRI
from tangentrows.desk.desks import Desk
from tangentrows.desk.promises import paper_against
from tangentrows.errors import InvalidLot, InvalidOperation
from tangentrows.free.free import degrees_of
from tangentrows.plane.lots import Lot
from tangentrows.press.pairs import degrees_on
from tangentrows.text import shell as module
from tangentrows.text.formats import write_lot
from tangentrows.text.shell import Shell

TRIPLES = ("1,0,0", "0,0,1", "1,-1,0", "0,0,0", "2,4,6", "-1,0,0", "999999999,-999999999,1", "1,1001,0")
NO_TRIPLES = ("1,0", "1,0,0,0", "1,0,x", "1,,0", ",1,0", "1,0,", "01,0,0", "-0,1,0", "+1,0,0", "1000000000,0,1", "-1000000000,0,1",
              "1;0;0", "x", "1", "--1,0,0", "(1,0,0)")
NUMBERS = ("0", "1", "12", "999")
NO_NUMBERS = ("1000", "-1", "01", "007", "+1", "-0", "x", "1,0,0", "1.0", "00", "1x")
PROMISES = {"free": "", "degrees": "NN", "pressed": "TNN", "most": "N", "modular": "T"}
WORDS = {"show": "", "put": "T", "take": "T", "led": "TTT", "promises": "", "open": "", "end": "", "cancel": "", "rest": ""}
ABOUT = ("promise", "drop", "ask", "why")


def shown(shell):
    return [shell.lot, shell.promises, shell.version, len(shell), str(shell), shell._batch is None]


class ShellTest(Checks, unittest.TestCase):
    def said(self, shell, *pairs):
        """Say commands, each with the answer that is expected."""
        for command, answer in pairs:
            self.assert_same(shell.say(command), answer)

    def test_constants(self):
        self.assert_same([module.MAX_LINE, module.MAX_LINES], [2000, 100])

    def test_new_shells(self):
        for lot in (BRAID, FANO, ONE):
            shell = Shell(lot)
            self.assertEqual([shell.lot, shell.promises, shell.version, len(shell)], [lot, (), 0, 0])
            self.assertEqual(str(shell), f"shell over {lot.prime} at version 0, 0 promises")
        for value in wrong_values():
            if not isinstance(value, Lot):
                self.assert_raises(InvalidLot, Shell, value)
        self.assertEqual(outcome(lambda: list(Shell(BRAID)))[0], "TypeError")

    def test_what_is_told(self):
        for lot in (BRAID, FIVE, FAN, PLUS, FANO, ONE, Lot(0, PENCIL)):
            shell = Shell(lot)
            pair = degrees_of(lot)
            self.said(shell, ("show", write_lot(lot)), ("rest", str(lot.rest)),
                      ("degrees", f"{pair[0]} {pair[1]}" if pair else "not free"))
            for line in (X, Z, (1, 1, 0), (0, 1, 1)):
                self.said(shell, ("degrees {},{},{}".format(*line), "{} {}".format(*degrees_on(lot, line))))
            self.said(shell, ("promises", "none"), ("degrees 2,0,0", "invalid"), ("degrees 0,0,0", "invalid"),
                      ("degrees 0,1,1001", "invalid"))
        self.said(Shell(FANO), ("degrees 1,-1,0", "invalid"), ("degrees 1,2,0", "invalid"), ("degrees 1,1,0", "2 4"))

    def test_ask_and_why(self):
        told = set()
        for lot in (BRAID, FIVE, FAN, FANO, ONE):
            shell = Shell(lot)
            for command, promise in (("free", ("free",)), ("degrees 2 3", ("degrees", 2, 3)), ("degrees 3 3", ("degrees", 3, 3)),
                                     ("degrees 0 12", ("degrees", 0, 12)),
                                     ("degrees 2 2", ("degrees", 2, 2)), ("degrees 1 4", ("degrees", 1, 4)),
                                     ("pressed 1,0,0 2 3", ("pressed", X, 2, 3)),
                                     ("pressed 0,0,1 1 5", ("pressed", Z, 1, 5)), ("most 3", ("most", 3)), ("most 1", ("most", 1)),
                                     ("most 13", ("most", 13)), ("modular 0,0,1", ("modular", Z)),
                                     ("modular 0,1,1", ("modular", (0, 1, 1))),
                                     ("modular 1,1,1", ("modular", (1, 1, 1)))):
                paper = paper_against(lot, promise)
                answer = "holds" if paper is None else paper[0]
                self.said(shell, ("ask " + command, "yes" if paper is None else "no"), ("why " + command, answer))
                told.add(answer)
        self.assertEqual(told, {"holds", "bar", "many", "rest", "two", "point", "off", "lines"})

    def test_deeds(self):
        shell = Shell(BRAID)
        self.said(shell, ("put 1,1,1", "version 1"), ("take 1,0,0", "version 2"), ("put 1,1,1", "failed there"),
                  ("take 1,0,0", "failed missing"),
                  ("led 2,0,0 0,1,0 0,0,1", "version 3"), ("led 1,0,0 2,0,0 0,0,1", "failed flat"),
                  ("led 1,0,0 0,1,0 0,0,1", "version 3"),
                  ("led 1,0,0 0,1,0 0,0,999999999", "failed great"), ("put 2,0,0", "invalid"), ("take 0,0,0", "invalid"),
                  ("put 1,1001,0", "invalid"))
        self.assertEqual(shell.lot, BRAID.with_line((1, 1, 1)).without_line(X).led(((2, 0, 0), Y, Z)))
        self.said(Shell(ONE), ("take 1,0,0", "failed last"), ("led 0,0,0 0,0,0 0,0,0", "failed flat"))
        self.said(Shell(Lot(0, PENCIL)), ("put 0,0,1", "failed many"), ("put 1,0,0", "failed there"))
        self.said(Shell(FANO), ("led 1,0,0 0,1,0 0,0,2", "invalid"), ("led 1,0,0 0,1,0 0,0,-1", "invalid"), ("put 1,-1,0", "invalid"))

    def test_promises(self):
        shell = Shell(BRAID)
        self.said(shell, ("promise free", "new"), ("promise  free ", "there"), ("promise degrees 2 3", "new"),
                  ("promise pressed 1,0,0 2 3", "new"),
                  ("promise most 3", "new"), ("promise modular 1,1,1", "new"),
                  ("promises", "free, degrees 2 3, pressed 1,0,0 2 3, most 3, modular 1,1,1"))
        self.assertEqual(shell.promises, (("free",), ("degrees", 2, 3), ("pressed", X, 2, 3), ("most", 3), ("modular", (1, 1, 1))))
        self.said(shell, ("promise most 2", "broken most 2"), ("promise degrees 1 4", "broken degrees 1 4"),
                  ("promise modular 0,1,1", "broken modular 0,1,1"),
                  ("promise pressed 1,-1,0 1 4", "broken pressed 1,-1,0 1 4"), ("put 1,1,1", "broken free"),
                  ("take 1,0,0", "broken degrees 2 3"),
                  ("drop most 4", "unknown"), ("drop most 3", "version 6"), ("drop most 3", "unknown"), ("drop degrees 2 3", "version 7"),
                  ("promises", "free, pressed 1,0,0 2 3, modular 1,1,1"), ("promise most 4", "new"), ("promise most 5", "new"),
                  ("promise most 6", "new"),
                  ("promise most 7", "new"), ("promise most 8", "new"), ("promise most 9", "too many"), ("promise most 8", "there"),
                  ("promise most 1", "broken most 1"))
        self.assertEqual([shell.version, len(shell.promises), str(shell)], [12, 8, "shell over 0 at version 12, 8 promises"])

    def test_promises_that_are_none(self):
        shell = Shell(FANO)
        for promise in ("degrees 3 2", "degrees 0 13", "degrees 0 999", "most 0", "most 14", "most 999", "pressed 2,0,0 2 3",
                        "pressed 1,0,0 3 2", "modular 0,0,0",
                        "modular 1,2,0", "modular -1,0,0", "pressed 1,-1,0 2 3", "pressed 0,0,0 0 0"):
            for word in ABOUT:
                self.said(shell, (f"{word} {promise}", "invalid"))
        self.said(Shell(BRAID), ("ask modular 1,2,0", "no"), ("ask pressed 1,-1,0 2 3", "yes"), ("ask modular 999999999,1,1", "no"),
                  ("drop free", "unknown"))

    def test_undo(self):
        shell = Shell(BRAID)
        self.said(shell, ("undo", "no more"), ("undo 0", "invalid"), ("undo 1", "no more"), ("promise free", "new"),
                  ("take 1,0,0", "version 2"),
                  ("take 0,1,0", "version 3"), ("undo 4", "no more"), ("undo 999", "no more"), ("undo", "version 2"),
                  ("undo 2", "version 0"), ("undo 0", "invalid"))
        self.assertEqual([shell.lot, shell.promises, shell.version], [BRAID, (), 0])

    def test_batches(self):
        shell = Shell(BRAID)
        self.said(shell, ("end", "no batch"), ("cancel", "no batch"), ("promise free", "new"), ("open", "open"), ("open", "invalid"))
        for command in ("undo", "undo 1", "undo 0", "undo 99", "promise free", "promise most 2", "drop free", "drop most 3",
                        "promise most 14"):
            self.said(shell, (command, "invalid"))
        self.said(shell, ("put 1,1,1", "taken"), ("degrees", "not free"), ("rest", str(BRAID.with_line((1, 1, 1)).rest)),
                  ("show", write_lot(BRAID.with_line((1, 1, 1)))),
                  ("ask free", "no"), ("why free", "bar"),
                  ("degrees 1,1,1", "{} {}".format(*degrees_on(BRAID.with_line((1, 1, 1)), (1, 1, 1)))),
                  ("promises", "free"), ("put 1,1,1", "failed there"), ("take 1,5,7", "failed missing"), ("put 2,0,0", "invalid"),
                  ("led 1,0,0 1,0,0 0,0,1", "failed flat"))
        self.assertEqual([shell.version, shell.lot, shell.promises], [1, BRAID.with_line((1, 1, 1)), (("free",),)])
        self.said(shell, ("end", "broken free"), ("end", "no batch"), ("degrees", "2 3"), ("open", "open"), ("take 1,0,0", "taken"),
                  ("end", "version 2"),
                  ("open", "open"), ("take 0,1,0", "taken"), ("cancel", "dropped"), ("cancel", "no batch"),
                  ("rest", str(BRAID.without_line(X).rest)),
                  ("open", "open"), ("end", "version 2"), ("open", "open"), ("put 1,0,0", "taken"), ("take 1,0,0", "taken"),
                  ("end", "version 2"))
        self.assertEqual([shell.lot, shell.version], [BRAID.without_line(X), 2])
        last = Shell(ONE)
        self.said(last, ("open", "open"), ("take 1,0,0", "failed last"), ("led 0,1,0 1,0,0 0,0,1", "taken"), ("show", "0: 0 1 0"),
                  ("end", "version 1"))

    def test_commands_without_pieces(self):
        shell = Shell(BRAID)
        self.said(shell, ("", ""), (" ", ""), (" " * 2000, ""))
        self.assertEqual([len(shell), shell.version, shell.lot], [3, 0, BRAID])

    def test_blanks(self):
        shell = Shell(BRAID)
        self.said(shell, ("  promise   most  3  ", "new"), (" show", write_lot(BRAID)), ("led  1,0,0  0,1,0   0,0,1 ", "version 1"),
                  ("put 1, 1,1", "wrong at 1"))
        self.said(shell, ("rest" + " " * 1996, "6"), (" " * 1996 + "rest", "6"))

    def check_wrong(self, command, index):
        """Refused with this index, whether a batch is open or not, and without effect."""
        for shell in (Shell(BRAID), Shell(FANO), self.with_batch()):
            before = shown(shell)
            self.said(shell, (command, f"wrong at {index}"))
            after = shown(shell)
            self.assertEqual([before[:3], before[5], before[3] + 1], [after[:3], after[5], after[3]])

    def with_batch(self):
        shell = Shell(BRAID)
        shell.run(("open", "take 1,0,0"))
        return shell

    def test_wrong_words(self):
        for command in ("x", "Show", "shows", "put1,0,0", "1,0,0", "?", "show,", "version", "drops free", "free", "-", "open.", "OPEN",
                        "put, 1,0,0", "__init__"):
            self.check_wrong(command, 0)
            self.check_wrong(command + " 1,0,0", 0)

    def shapes(self):
        """Each command with the kinds of the pieces behind its words, the words first."""
        for word, kinds in WORDS.items():
            yield (word,), kinds
        for word in ABOUT:
            for name, kinds in PROMISES.items():
                yield (word, name), kinds
        yield ("undo",), "N"
        yield ("degrees",), "T"

    def test_wrong_pieces(self):
        source = random.Random(241)
        for words, kinds in self.shapes():
            right = [source.choice(TRIPLES if kind == "T" else NUMBERS) for kind in kinds]
            for at, kind in enumerate(kinds):
                for piece in (NO_TRIPLES + NUMBERS if kind == "T" else NO_NUMBERS + TRIPLES):
                    pieces = [*words, *right[:at], piece]
                    self.check_wrong(" ".join(pieces), len(pieces) - 1)
                    self.check_wrong(" ".join([*pieces, *right[at + 1:], "more"]), len(pieces) - 1)
            # One piece too many, and too few.
            for piece in ("x", "1", "1,0,0", "free"):
                self.check_wrong(" ".join([*words, *right, piece]), len(words) + len(kinds))
            for many in range(len(kinds)):
                if words[0] not in ("undo", "degrees"):
                    self.check_wrong(" ".join([*words, *right[:many]]), len(words) + many)
        for word in ABOUT:
            self.check_wrong(word, 1)
            for name in ("x", "Free", "1", "1,0,0", "show", "freed", "bar"):
                self.check_wrong(f"{word} {name}", 1)
                self.check_wrong(f"{word} {name} 2 3", 1)

    def test_right_pieces(self):
        # No command that is written rightly is wrong at a piece, whatever its pieces mean.
        source = random.Random(242)
        for lot in (BRAID, FANO):
            for words, kinds in self.shapes():
                for _ in range(8):
                    shell = Shell(lot)
                    pieces = [*words, *[source.choice(TRIPLES if kind == "T" else NUMBERS) for kind in kinds]]
                    self.assertFalse(shell.say(" ".join(pieces)).startswith("wrong"))
        self.assertEqual([Shell(BRAID).say(command) for command in ("undo", "degrees")], ["no more", "2 3"])

    def test_the_order_of_answers(self):
        shell = Shell(BRAID)
        self.said(shell, ("end 1", "wrong at 1"), ("cancel x", "wrong at 1"), ("end", "no batch"), ("undo 1000", "wrong at 1"))
        self.said(self.with_batch(), ("open 1", "wrong at 1"), ("undo x", "wrong at 1"), ("promise", "wrong at 1"), ("undo 5", "invalid"))

    def test_no_commands(self):
        shell = Shell(BRAID)
        shell.say("promise free")
        before = shown(shell)
        for value in (*[value for value in wrong_values() if not isinstance(value, str)], "show\n", "\tshow", "show\t", "\n", "a\tb\n",
                      "x" * 2001, " " * 2001, "sh\x7fow", "\x1f", "caf\xe9",
                      "~" * 3000):
            self.assert_raises(InvalidOperation, shell.say, value)
            self.assert_raises(InvalidOperation, shell.run, ("take 1,0,0", value))
            self.assert_raises(InvalidOperation, shell.run, (value,))
            self.assertEqual(shown(shell), before)
        self.said(shell, ("x" * 2000, "wrong at 0"), ("~", "wrong at 0"))

    def test_run(self):
        shell = Shell(BRAID)
        self.assert_same(shell.run(()), ())
        self.assert_same(shell.run(("show",) * 100), (write_lot(BRAID),) * 100)
        self.assertEqual(len(shell), 100)
        before = shown(shell)
        for value in (("show",) * 101, ["show"], "show", None, {"show": 1}, ("show", None), ("take 1,0,0", ["show"]),
                      ("take 1,0,0", "x" * 2001)):
            self.assert_raises(InvalidOperation, shell.run, value)
            self.assertEqual(shown(shell), before)
        for value in wrong_values():
            if not isinstance(value, tuple) or not all(isinstance(one, str) for one in value):
                self.assert_raises(InvalidOperation, shell.run, value)
        self.assertEqual(shown(shell), before)
        self.assert_same(shell.run(("take 1,0,0", "x", "", "undo")), ("version 1", "wrong at 0", "", "version 0"))
        self.assertEqual(len(shell), 104)

    def test_against_a_desk(self):
        # Whatever is said, a desk that is used by calls comes to the same.
        source = random.Random(243)
        lines = ("1,0,0", "0,1,0", "0,0,1", "1,1,0", "1,1,1", "1,-1,0")
        shell, desk = Shell(PLUS), Desk(PLUS)
        for _ in range(200):
            word, line = source.choice(("put", "take", "undo", "promise", "drop")), source.choice(lines)
            triple = tuple(map(int, line.split(",")))
            if word in ("put", "take"):
                command, call, value = f"{word} {line}", desk.do, ((word, triple),)
            elif word == "undo":
                command, call, value = "undo 2", desk.undo, 2
            else:
                number = source.randint(2, 4)
                command, call, value = f"{word} most {number}", getattr(desk, word), ("most", number)
            answer, (name, found) = shell.say(command), outcome(call, value)
            if name == "returned":
                expected = {True: "new", False: "there"}.get(found) if word == "promise" else f"version {found}"
            else:
                expected = {"NothingToUndo": "no more", "UnknownName": "unknown", "TooMany": "too many"}.get(name)
                if name == "Refused":
                    expected = f"failed {found[2]}" if found[0] == "deed" else "broken " + " ".join(map(str, found[1]))
            self.assertEqual(answer, expected)
            self.assertEqual([shell.lot, shell.promises, shell.version], [desk.lot, desk.promises, desk.version])

    def test_lots_stay(self):
        lot = Lot(0, TRI.lines)
        shell, other = Shell(lot), Shell(lot)
        shell.run(("take 1,0,0", "open", "take 0,1,0", "promise free"))
        self.assertEqual([lot, other.lot, other.version, len(other)], [TRI, TRI, 0, 0])
        self.assertEqual([shell.promises, other.promises], [(), ()])


if __name__ == "__main__":
    unittest.main()
