"""Texts of lots, marks and forms: [18.1] to [18.4] and their functions."""

import random
import re
import unittest

from support import Checks, outcome, wrong_values
from test_deeds import ONE, lots_of_all_kinds
from test_forms import some_form
from test_lots import BRAID, PENCIL, X, Y, Z
from test_marks import some_marks
from test_rows import HUGE, number3
from tangentrows.errors import InvalidForm, InvalidLot, InvalidMarks, InvalidNumber, ParseError
from tangentrows.form.forms import Form
from tangentrows.mark.marks import Marks
from tangentrows.plane.lots import Lot
from tangentrows.text import formats as module
from tangentrows.text.formats import read_forms, read_lot, read_marks, write_forms, write_lot, write_marks

PRIME = "(?:0|2|3|5|7|11|13|17|19)"
NUMBER = "(?:0|-?[1-9][0-9]{0,59})"
COUNT = "[1-9][0-9]{0,59}"
LINE, SPOT = f"(?: {NUMBER}){{3}}", rf" {NUMBER} {NUMBER}\*{COUNT}"
LOT, MARKS = re.compile(f"{PRIME}:{LINE}(?:,{LINE})*"), re.compile(f"{PRIME}:(?:{SPOT}(?:,{SPOT})*)?")
LONGEST = "9" * 60
# Whatever goes on to be a text of a lot, or of marks, does so with one of these.
LOT_ENDS = ("", "1", " 1", "1 1", " 1 1", "1 1 1", " 1 1 1", ": 1 1 1", "1: 1 1 1", "0: 1 1 1")
MARKS_ENDS = ("", "1", "*1", "1*1", " 1*1", "1 1*1", " 1 1*1", ":", "1:", "0:")


def wrong_index(pattern, ends, text):
    """The index that [18.2] tells for a text, or None for one that is right."""
    for at in range(len(text) + 1):
        if not any(pattern.fullmatch(text[:at] + end) for end in ends):
            return at - 1
    return None if pattern.fullmatch(text) else len(text)


def changed(source, text):
    """The text with a few characters put in, taken out or replaced, or a part of it."""
    for _ in range(source.randint(1, 2)):
        at, kind = source.randint(0, len(text)), source.randint(0, 3)
        letter = source.choice("0123456789-+ ,:*x\n")
        text = {0: text[:at] + letter + text[at:], 1: text[:at] + text[at + 1:], 2: text[:at] + letter + text[at + 1:],
                3: text[:at]}[kind]
    return text


class LotsTest(Checks, unittest.TestCase):
    def test_texts(self):
        for lot in lots_of_all_kinds():
            text = write_lot(lot)
            self.assert_same(text, f"{lot.prime}: " + ", ".join("{} {} {}".format(*line) for line in lot.lines))
            self.assertTrue(LOT.fullmatch(text))
            self.assertEqual(read_lot(text), lot)
        self.assert_same([write_lot(ONE), write_lot(Lot(19, ((1, 18, 0), Z)))], ["0: 1 0 0", "19: 0 0 1, 1 18 0"])
        self.assert_same(write_lot(Lot(0, ((3, -1000, 1000),))), "0: 3 -1000 1000")

    def test_any_order(self):
        source = random.Random(231)
        for lot in (BRAID, Lot(0, PENCIL), Lot(3, (X, Y, Z))):
            lines = list(lot.lines)
            source.shuffle(lines)
            text = f"{lot.prime}: " + ", ".join("{} {} {}".format(*line) for line in lines)
            self.assertEqual(read_lot(text), lot)

    def test_wrong_at(self):
        for text, index in (("", 0), ("0", 1), ("1", 1), ("4", 0), ("12", 1), ("23", 1), ("-0", 0), (" 0", 0), ("00", 1), ("0 :", 1),
                            ("0:", 2), ("0:1", 2),
                            ("0: ", 3), ("0:  1", 3), ("0: 1", 4), ("0: 1 ", 5), ("0: 1 0", 6), ("0: 1 0 ", 7), ("0: 1 0 0,", 9),
                            ("0: 1 0 0, ", 10),
                            ("0: 1 0 0 ", 8), ("0: 1 0 0,0", 9), ("0: 1 0 0,  ", 10), ("0: 1 0 0, 1", 11), ("0: 1 0 0 0", 8),
                            ("0: 1 0 00", 8), ("0: 01 0 0", 4),
                            ("0: -0 0 1", 4), ("0: - 1 1", 4), ("0: -", 4), ("0: +1 0 0", 3), ("0: --1 0 0", 4), ("0: 1 0 0\n", 8),
                            ("0: 1,0,0", 4),
                            ("0: x 0 0", 3), ("0: 1 0, 0 1 0", 6), ("23: 1 0 0", 1), ("1: 1 0 0", 1), ("0;", 1), ("0: 1 0 0;", 8),
                            ("11", 2), ("13: 1 0 0,", 10),
                            ("0: 1 0 0*1", 8), ("0: 1.0 0 0", 4), ("0:\t1 0 0", 2)):
            self.assertEqual(wrong_index(LOT, LOT_ENDS, text), index, text)
            self.assert_raises(ParseError(index), read_lot, text)

    def test_long_numbers(self):
        for text in (f"0: {LONGEST} 0 1", f"0: 0 -{LONGEST} 1", f"0: 1 0 0, 1 {LONGEST} 0"):
            self.assert_raises(InvalidLot, read_lot, text)
        self.assert_raises(ParseError(63), read_lot, f"0: {LONGEST}9 0 1")
        self.assert_raises(ParseError(64), read_lot, f"0: -{LONGEST}9 0 1")
        self.assert_raises(ParseError(63), read_lot, f"0: {LONGEST}")
        self.assert_raises(ParseError(63), read_lot, f"0: {LONGEST}0")
        self.assert_raises(ParseError(63), read_lot, "0: " + "9" * 2900)

    def test_each_place_where_a_text_can_end(self):
        text = "13: 1 0 12, 0 1 5"
        for end in range(len(text)):
            if LOT.fullmatch(text[:end]):
                self.assertEqual(outcome(read_lot, text[:end])[0], "returned")
            else:
                self.assert_raises(ParseError(end), read_lot, text[:end])

    def test_changed_texts(self):
        source = random.Random(232)
        told = {"parse": 0, "lot": 0, "right": 0}
        for text in ("0: 1 0 0, 0 1 -1", "5: 1 0 4", "0: 12 -5 0, 0 0 1", "19: 1 18 10, 0 1 0, 0 0 1", "2: 1 1 1"):
            for _ in range(400):
                value = changed(source, text)
                index = wrong_index(LOT, LOT_ENDS, value)
                if index is not None:
                    self.assert_raises(ParseError(index), read_lot, value)
                    told["parse"] += 1
                    continue
                prime, lines = value.split(":")
                lines = tuple(tuple(map(int, line.split())) for line in lines.split(","))
                made = outcome(Lot, int(prime), lines)
                self.assertEqual(outcome(read_lot, value), made)
                told["right" if made[0] == "returned" else "lot"] += 1
        self.assertGreater(min(told.values()), 30)

    def test_no_lots(self):
        for text in ("0: 2 0 0", "0: 0 0 0", "0: -1 0 0", "5: 1 5 0", "5: 1 -1 0", "2: 1 2 0", "0: 1 0 0, 1 0 0", "0: 1 1001 0",
                     "0: 1 0 0, 0 1 0, 1 0 0",
                     "0: " + ", ".join(f"1 {k} 0" for k in range(14)), "7: " + ", ".join(["1 0 0"] * 14)):
            self.assert_raises(InvalidLot, read_lot, text)
        self.assertEqual(read_lot("0: " + ", ".join(f"1 {k} 0" for k in range(13))).many, 13)

    def test_errors(self):
        for value in wrong_values():
            if not isinstance(value, str):
                self.assert_raises(ParseError(None), read_lot, value)
                self.assert_raises(ParseError(None), read_marks, value)
            if not isinstance(value, Lot):
                self.assert_raises(InvalidLot, write_lot, value)
            if not isinstance(value, Marks):
                self.assert_raises(InvalidMarks, write_marks, value)


class MarksTest(Checks, unittest.TestCase):
    def test_texts(self):
        for marks in some_marks():
            text = write_marks(marks)
            spots = ", ".join(f"{a} {b}*{count}" for (a, b), count in marks.counts.items())
            self.assert_same(text, f"{marks.prime}: {spots}" if spots else f"{marks.prime}:")
            self.assertTrue(MARKS.fullmatch(text))
            self.assertEqual(read_marks(text), marks)
        self.assert_same([write_marks(Marks(7, {})), write_marks(Marks(5, {(1, 3): 1, (0, 1): 2}))], ["7:", "5: 0 1*2, 1 3*1"])
        self.assertEqual([read_marks("7:"), read_marks("0:")], [Marks(7, {}), Marks(0, {})])
        self.assertEqual(read_marks("5: 1 3*1, 0 1*2"), Marks(5, {(1, 3): 1, (0, 1): 2}))

    def test_wrong_at(self):
        for text, index in (("", 0), ("7", 1), ("7: ", 3), ("7:1", 2), ("7: 1", 4), ("7: 1 0", 6), ("7: 1 0*", 7), ("7: 1 0*0", 7),
                            ("7: 1 0*-1", 7), ("7: 1 0*+1", 7),
                            ("7: 1 0*01", 7), ("7: 1 0 *1", 6), ("7: 1 0* 1", 7), ("7: 1 0*1,", 9), ("7: 1 0*1, ", 10),
                            ("7: 1 0*1,0 1*1", 9), ("7: 1 0*1 ", 8),
                            ("7: 1 0*1, 0 1", 13), ("7: 1*1", 4), ("7: 1 0 0", 6), ("7: 1 00*1", 6), ("7: 1 -0*1", 6), ("7:\n", 2),
                            ("6:", 0), ("1:", 1), ("7: 1 0*1;", 8)):
            self.assertEqual(wrong_index(MARKS, MARKS_ENDS, text), index, text)
            self.assert_raises(ParseError(index), read_marks, text)
        self.assert_raises(ParseError(67), read_marks, f"0: 1 0*{LONGEST}9")
        self.assert_raises(InvalidMarks, read_marks, f"0: 1 0*{LONGEST}")

    def test_each_place_where_a_text_can_end(self):
        text = "13: 1 12*10, 0 1*5"
        for end in range(len(text)):
            if MARKS.fullmatch(text[:end]):
                self.assertEqual(outcome(read_marks, text[:end])[0], "returned")
            else:
                self.assert_raises(ParseError(end), read_marks, text[:end])

    def test_changed_texts(self):
        source = random.Random(233)
        told = {"parse": 0, "marks": 0, "right": 0}
        for text in ("0: 1 0*12, 0 1*3", "5: 1 4*2", "0: 12 -5*1, 0 1*1", "19: 1 18*10, 0 1*2", "2:"):
            for _ in range(400):
                value = changed(source, text)
                index = wrong_index(MARKS, MARKS_ENDS, value)
                if index is not None:
                    self.assert_raises(ParseError(index), read_marks, value)
                    told["parse"] += 1
                    continue
                prime, spots = value.split(":")
                pairs = [re.split(r"[ *]", spot.strip()) for spot in spots.split(",")] if spots else []
                counts = {(int(a), int(b)): int(count) for a, b, count in pairs}
                made = outcome(Marks, int(prime), counts) if len(counts) == len(pairs) else ("InvalidMarks", "nothing kept")
                self.assertEqual(outcome(read_marks, value), made)
                told["right" if made[0] == "returned" else "marks"] += 1
        self.assertGreater(min(told.values()), 30)

    def test_no_marks(self):
        for text in ("0: 2 0*1", "0: 0 0*1", "0: -1 0*1", "5: 1 5*1", "5: 1 -1*1", "0: 1 0*13", "0: 1 0*1, 1 0*1",
                     "0: 1 0*12, 0 1*12, 1 1*1", "0: 1 10000001*1",
                     "0: " + ", ".join(f"1 {k}*1" for k in range(14)), "0: 1 0*1, 2 0*1, 1 0*1"):
            self.assert_raises(InvalidMarks, read_marks, text)
        self.assertEqual(read_marks("0: 1 0*12, 0 1*12").total, 24)


class FormsTest(Checks, unittest.TestCase):
    def some_tuples(self):
        source = random.Random(234)
        for prime in (0, 2, 3, 19):
            for letters in (2, 3):
                for many in (1, 2, 5, 20):
                    yield prime, letters, tuple(some_form(source, prime, letters, source.randint(0, 5)) for _ in range(many))

    def test_texts(self):
        for prime, letters, forms in self.some_tuples():
            text = write_forms(forms)
            self.assert_same(text, "; ".join(map(str, forms)))
            found = read_forms(prime, letters, text)
            self.assertTrue(type(found) is tuple and found == forms)
        zero = Form(5, 2)
        self.assert_same([write_forms((zero,)), write_forms((zero, zero))], ["0", "0; 0"])
        self.assertEqual(read_forms(0, 3, LONGEST + "x; -" + LONGEST)[1][(0, 0, 0)], -int(LONGEST))
        # Longer numbers are written, but not read.
        text = write_forms((Form(0, 3), number3(0, HUGE)))
        self.assert_same(text, f"0; {HUGE}")
        self.assert_raises(ParseError(3), read_forms, 0, 3, text)

    def test_wrong_texts(self):
        for prime, letters, text, index in ((0, 2, "", 0), (0, 2, "x;", 0), (0, 2, "x; ", 3), (0, 2, "x;y", 0), (0, 2, "x;  y", 3),
                                            (0, 2, "; x", 0), (0, 2, "x; z", 3),
                                            (0, 2, "x; y; y + x; z", 6), (0, 2, "x ; y", 0), (0, 2, "x; y ", 3), (0, 2, "x; -0", 3),
                                            (0, 2, "x; 0; 00", 6),
                                            (3, 2, "x; 3y", 3), (3, 2, "2x; -y", 4), (0, 2, "x; y; x^41", 6), (0, 3, "xyz; x + y^2", 5),
                                            (0, 2, "x\n; y", 0),
                                            (0, 2, "x, y", 0), (0, 2, LONGEST + "9; x", 0), (0, 2, "x; 1x", 3), (0, 2, "x; x^1", 3),
                                            (2, 3, "x; 2", 3)):
            self.assert_raises(ParseError(index), read_forms, prime, letters, text)

    def test_how_many(self):
        twenty = "; ".join(["x"] * 20)
        self.assertEqual(len(read_forms(0, 2, twenty)), 20)
        self.assert_raises(ParseError(60), read_forms, 0, 2, twenty + "; x")
        self.assert_raises(ParseError(60), read_forms, 0, 2, twenty + "; no; x")
        self.assert_raises(ParseError(60), read_forms, 0, 2, twenty + "; ")
        self.assert_raises(ParseError(57), read_forms, 0, 2, twenty[:-1] + "z; x; x")
        self.assert_raises(ParseError(60), read_forms, 0, 2, "; ".join(["x"] * 900))
        x = Form.read(0, 2, "x")
        self.assert_same(write_forms((x,) * 20), twenty)
        self.assert_raises(InvalidForm, write_forms, (x,) * 21)

    def test_errors_of_writing(self):
        x = Form.read(0, 2, "x")
        for value in (*wrong_values(), (), [x], x, (x, None), (None, x), (x, "x"), (x, Form(5, 2)), (x, Form(0, 3)), (Form(0, 3), x),
                      (x, (x,))):
            if not self.are_right(value):
                self.assert_raises(InvalidForm, write_forms, value)

    def are_right(self, value):
        """Some of the wrong values are forms that fit."""
        if not isinstance(value, tuple) or not value or not all(isinstance(one, Form) for one in value):
            return False
        return len({(one.prime, one.letters) for one in value}) == 1

    def test_errors_of_reading(self):
        for value in (*wrong_values(), 4, 23):
            if value not in (0, 2, 3) or isinstance(value, bool):
                self.assert_raises(InvalidNumber(value), read_forms, value, None, None)
            if value not in (2, 3) or isinstance(value, bool):
                self.assert_raises(InvalidNumber(value), read_forms, 0, value, None)
            if not isinstance(value, str):
                self.assert_raises(ParseError(None), read_forms, 0, 2, value)

    def test_constant(self):
        self.assert_same(module.MAX_FORMS, 20)


if __name__ == "__main__":
    unittest.main()
