"""Point 6."""

import random
import unittest

from judges import EMPTY, FULL, PROJECTIVE, RING, Judge
from shapeholes.complexes import Complex
from shapeholes.errors import InvalidText, NotComplex, NotText, TooMany
from shapeholes.texts import read, write

# Each text with the place at which it goes wrong.
WRONG_TEXTS = (
    ("x", 0), ("0x", 1), ("0 x", 2), ("-1", 0), ("0,1", 1), ("0\t1", 1), ("0\n", 1), ("\n", 0), ("0;\n1", 2),
    ("0 1.", 3), ("+1", 0), ("1_0", 1), ("0:1", 1), ("\u0663", 0), ("\u00b2", 0), ("1\u00b2", 1), ("\u00a0", 0),
    ("0 \u2003 1", 2), ("(0)", 0),
    ("31", 0), ("0 31", 2), ("0;  31", 4), ("100", 0), ("99999999999999999999", 0), ("1 " + "9" * 9000, 2),
    ("00", 0), ("01", 0), ("3 007", 2), ("0 00", 2), ("030", 0), ("0" * 9000, 0),
    ("1 1", 2), ("1 2  1", 5), ("1 2 3;4 5 4", 10), ("30 30", 3),
    ("0 1 2 3 4 5 6 7 8", 16), ("0 1 2 3 4 5 6 7 0", 16), ("0 1 2 3 4 5 6 7  99", 17), ("9;0 1 2 3 4 5 6 7 8 9", 18),
    ("0 1 2 3 4 5 6 7 x", 16),
    (";", 0), ("  ;", 2), ("0;;", 2), ("0; ;1", 3), (";0", 0), ("0 1;  ; ", 6),
    ("0 1;", 4), ("0;", 2), ("0; ", 3), ("0 1 ;   ", 8), ("0;1;", 4),
    ("31x", 0), ("0 31 x", 2), ("x 31", 0), ("1 1;;", 2), ("0;x;", 2), ("12 3 12x", 5))


class Writing(Judge, unittest.TestCase):
    def test_examples(self):
        self.assertEqual(write(read("2 1 0;3 2; 1")), "0 1 2; 2 3")
        self.assert_raises(InvalidText(4), read, "0 1;")

    def test_write(self):
        self.assertEqual(write(EMPTY), "")
        self.assertEqual(write(FULL), "0 1 2 3 4 5 6 7")
        self.assertEqual(write(Complex(((4,), (10, 30), (2, 3), (0, 1, 5)))), "0 1 5; 2 3; 4; 10 30")
        for value in (None, "", "0 1", (), ((0, 1),), True, 0, []):
            self.assert_raises(NotComplex(), write, value)

    def test_there_and_back(self):
        for seed in range(40):
            source = random.Random(seed)
            shape = Complex(tuple(
                tuple(sorted(source.sample(range(31), source.randint(1, 5)))) for _ in range(source.randint(0, 9))))
            self.assertEqual(read(write(shape)), shape)
        for shape in (EMPTY, FULL, RING, PROJECTIVE):
            self.assertEqual(read(write(shape)), shape)


class Reading(Judge, unittest.TestCase):
    def test_spaces(self):
        for text in ("", " ", " " * 70):
            self.assertEqual(read(text), EMPTY)
        for text in ("0 1;2", " 0 1;2", "0 1;2 ", "0  1;2", "0 1 ;2", "0 1; 2", "  1   0  ;  2  ", "2;1 0", "2;1 0;2;0"):
            self.assertEqual(read(text).facets, ((0, 1), (2,)))

    def test_limits(self):
        self.assertEqual(read("30 0").facets, ((0, 30),))
        self.assertEqual(read("7 6 5 4 3 2 1 0"), FULL)
        self.assertEqual(read("0;1;0;0").facets, ((0,), (1,)))

    def test_wrong_texts(self):
        for text, place in WRONG_TEXTS:
            self.assert_raises(InvalidText(place), read, text)

    def test_each_place_of_a_good_text(self):
        good = "0 12 3; 4 30"
        for place in range(len(good) + 1):
            self.assert_raises(InvalidText(place), read, good[:place] + "." + good[place:] + "..")

    def test_four_hundred_simplices(self):
        self.assertEqual(read(";".join(["5"] * 400)).facets, ((5,),))
        self.assertEqual(read(";".join(["5"] * 400) + "  ").facets, ((5,),))
        text = ";".join(["5"] * 400)
        self.assert_raises(InvalidText(len(text)), read, text + ";5")
        self.assert_raises(InvalidText(len(text)), read, text + ";")
        self.assert_raises(InvalidText(len(text)), read, text + ";  x")
        self.assert_raises(InvalidText(len(text) + 1), read, text + " ; ")
        self.assert_raises(InvalidText(len(text) - 1), read, text[:-1] + ";5")
        self.assert_raises(InvalidText(len(text) - 1), read, text[:-1])

    def test_too_many(self):
        text = "0 1 2 3 4 5 6 7; 8 9 10 11 12 13 14 15"
        self.assert_raises(TooMany(400), read, text)
        self.assert_raises(InvalidText(len(text) + 1), read, text + ";")
        self.assert_raises(InvalidText(len(text) + 1), read, text + ";x")

    def test_no_text(self):
        for value in (None, 0, True, (), [], ("0",), ["0"], b"0", RING, {}):
            self.assert_raises(NotText(), read, value)


if __name__ == "__main__":
    unittest.main()
