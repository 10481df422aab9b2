"""Point 5: texts of life tables."""

import itertools
import unittest

from actuarium.errors import BadLives, InvalidText, NotText
from actuarium.livestext import read_lives, write_lives
from tests.support import ANYTHING, Checks, is_lives, short

LONGEST = tuple(range(1000, 961, -1)) + (0,)
TABLES = [(1, 0), (10, 8, 3, 0), (5, 5, 5, 0), (10**6, 10**6, 1, 0), LONGEST, (10**6,) * 39 + (0,)]


def place_of(text):
    """Try to make a life table of the beginnings of a text, one by one; return the place of the error, or None.

    A text may go on as long as some life table begins so; otherwise its last
    character is not allowed, or the number to which it belongs is not.
    """
    numbers, at = [], 0
    while True:
        if numbers:
            while at < len(text) and text[at] == " ":
                at += 1
            if numbers[-1] == 0:
                return None if at == len(text) else at
            if at == len(text) or text[at] != ",":
                return at
            at += 1
        while at < len(text) and text[at] == " ":
            at += 1
        row = "".join(itertools.takewhile(lambda sign: sign in "0123456789", text[at:]))
        if not row:
            return at
        fits = str(int(row)) == row and int(row) <= (numbers[-1] if numbers else 10**6)
        if not fits or (not numbers and int(row) == 0) or (len(numbers) == 39 and int(row) != 0):
            return at
        numbers.append(int(row))
        at += len(row)


class TextTest(Checks, unittest.TestCase):
    def test_examples(self):
        self.same([write_lives((10, 8, 3, 0)), read_lives(' 5 ,2,0')], ['10, 8, 3, 0', (5, 2, 0)])
        self.is_told(InvalidText, read_lives, '5, 7, 0', place=3)

    def test_there_and_back(self):
        for lives in TABLES:
            text = write_lives(lives)
            self.assertEqual(text, str(lives).strip("()"))
            self.same(read_lives(text), lives)
            self.same(read_lives(text.replace(" ", "")), lives)

    def test_spaces_at_every_place(self):
        for lives in [(1, 0), (10, 8, 3, 0)]:
            bare = write_lives(lives).replace(" ", "")
            for place in range(len(bare) + 1):
                inside = 0 < place < len(bare) and bare[place - 1].isdigit() and bare[place].isdigit()
                for spaces in (" ", "   "):
                    text = bare[:place] + spaces + bare[place:]
                    if inside:
                        self.is_told(InvalidText, read_lives, text, place=place + len(spaces))
                    else:
                        self.same(read_lives(text), lives)
        self.same(read_lives("  7  ,  7 ,0   "), (7, 7, 0))

    def test_too_short_at_every_length(self):
        for text in ("10, 8, 3, 0", " 5 ,2,0", write_lives(LONGEST)):
            for length in range(len(text)):
                self.is_told(InvalidText, read_lives, text[:length], place=length)
        for text in ("", " ", "    "):
            self.is_told(InvalidText, read_lives, text, place=len(text))

    def test_places(self):
        cases = [
            ("0", 0), ("0, 0", 0), (" 0", 1), ("00", 0), ("05, 0", 0), ("5, 05, 0", 3), ("5, 00", 3), ("5, 0, ", 4),
            ("5, 0,", 4), ("5, 0 0", 5), ("5, 0 x", 5), ("5, 0x", 4), ("1000001, 0", 0), ("1000000, 1000001, 0", 9),
            ("5, 6, 0", 3), ("5, 5, 6, 0", 6), ("5,, 0", 2), (",5, 0", 0), ("5; 0", 1), ("-5, 0", 0), ("+5, 0", 0),
            ("5, -1, 0", 3), ("5.0, 0", 1), ("5 5, 0", 2), ("1 0, 0", 2), ("5\n, 0", 1), ("5,\t0", 2), ("(5, 0)", 0),
            ("5, 0)", 4), ("x", 0), ("5x, 0", 1), ("05x", 0), ("5, 01", 3), ("5, 10 000, 0", 3), ("5, 0\n", 4),
            ("\u0665, 0", 0), ("5\u0660, 0", 1), ("\u00b2, 0", 0), ("5, \uff10", 3), ("1_0, 0", 1), ("5,0\u00a0", 3),
            ("9" * 5000 + ", 0", 0), ("0" * 5000, 0), ("5, " + "1" * 5000, 3), ("5, " + "0" * 5000, 3), ("1e3, 0", 1),
        ]
        for text, place in cases:
            with self.subTest(text=text[:20]):
                self.is_told(InvalidText, read_lives, text, place=place)

    def test_fortieth_number(self):
        start = ", ".join(["7"] * 39) + ", "
        self.same(read_lives(start + "0"), (7,) * 39 + (0,))
        for tail in ("7", "1", "7, 0", "8", "07", "00", "1000001", "7x"):
            self.is_told(InvalidText, read_lives, start + tail, place=len(start))
        self.is_told(InvalidText, read_lives, start + "0, 0", place=len(start) + 1)
        self.is_told(InvalidText, read_lives, start + "x", place=len(start))
        self.is_told(InvalidText, read_lives, start, place=len(start))

    def test_all_short_texts(self):
        for length in range(8):
            for signs in itertools.product("20, x" if length < 6 else "20, ", repeat=length):
                text = "".join(signs)
                place = place_of(text)
                if place is None:
                    self.assertTrue(is_lives(read_lives(text)), text)
                else:
                    self.is_told(InvalidText, read_lives, text, place=place)

    def test_wrong_texts(self):
        for value in ANYTHING:
            if type(value) is not str:
                with self.subTest(value=short(value)):
                    self.is_told(NotText, read_lives, value)

    def test_wrong_lives(self):
        self.refuses(write_lives, [(1, 0)], 0, BadLives, is_lives)

    def test_arguments_stay(self):
        self.keeps_arguments(write_lives, (4, 2, 1, 0))
        self.keeps_arguments(read_lives, "4, 2, 0")


if __name__ == "__main__":
    unittest.main()
