import itertools
import re
import unittest

from brute import ODD_VALUES, all_perms, cyc, expect, one, shuffled
from stronggens.cycletext import read, write
from stronggens.errors import BadDegree, BadPermutation, InvalidText, NotText


def reading(degree, text):
    """The permutation or the wrong place, by the words of the document, piece by piece."""
    rows, inside = [], False
    for piece in re.finditer(r"[0-9]+|.", text, re.DOTALL):
        word = piece.group()
        if word == "(" and not inside:
            rows, inside = rows + [[]], True
        elif word == ")" and inside:
            inside = False
        elif word in [str(point) for point in range(degree)] and inside and not any(int(word) in row for row in rows):
            rows[-1].append(int(word))
        elif word != " ":
            return piece.start()
    return cyc(degree, *rows) if rows and not inside else len(text)


class TestWrite(unittest.TestCase):
    def test_form(self):
        self.assertEqual(write(one(1)), "()")
        self.assertEqual(write(one(12)), "()")
        self.assertEqual(write(cyc(12, (11, 10), (1, 5, 3))), "(1 5 3)(10 11)")

    def test_read_back(self):
        for degree in range(1, 6):
            for p in all_perms(degree):
                self.assertEqual(read(degree, write(p)), p)
        for seed in range(50):
            self.assertEqual(read(12, write(shuffled(12, seed))), shuffled(12, seed))

    def test_wrong_values(self):
        for value in ODD_VALUES + ((), (1, 0, 1), [0]):
            if value != (0,):
                expect(self, BadPermutation, {}, write, value)


class TestRead(unittest.TestCase):
    def test_loose_texts(self):
        for text in ("(0 2 1)", "(2 1 0)", "  ( 1  0 2 ) ", "()(0 2 1)()", "(3)(0 2 1)", "(0 2 1)(3 )", "(  )(1 0   2)(  3)"):
            self.assertEqual(read(4, text), (2, 0, 1, 3), text)
        for text in ("()", "( )", "()()", "(0)(1)(2)(3)", " (3) "):
            self.assertEqual(read(4, text), one(4), text)
        self.assertEqual(read(12, "(11 10)(9 0)"), read(12, "(0 9) (10 11)"))

    def test_all_short_texts(self):
        for size in range(7):
            for signs in itertools.product("() 01", repeat=size):
                text = "".join(signs)
                self.check(2, text)
        for text in itertools.product("() ", "(0", "12 ", " 3", "()2", ") (", "1)"):
            self.check(3, "".join(text))

    def check(self, degree, text):
        answer = reading(degree, text)
        if isinstance(answer, int):
            expect(self, InvalidText, {"place": answer}, read, degree, text)
        else:
            self.assertEqual(read(degree, text), answer, text)

    def test_places(self):
        for degree, text, place in (
            (4, "", 0), (4, "   ", 3), (4, "(", 1), (4, "(0 1", 4), (4, "(0 1) (", 7), (4, "(0 1)(2 ", 8), (4, ")", 0),
            (4, "0 1", 0), (4, " 1", 1), (4, "((0 1)", 1), (4, "(0(1)", 2), (4, "(0 1))", 5), (4, "(0,1)", 2),
            (4, "(0\t1)", 2), (4, "(0 1)\n", 5), (4, "(0 1 4)", 5), (4, "(0 1 12)", 5), (4, "(00)", 1), (4, "(0 01)", 3),
            (4, "(0 1 0)", 5), (4, "(0 1)(2 1)", 8), (4, "(-1)", 1), (4, "(+1)", 1), (4, "(1.0)", 2), (4, "(a)", 1),
            (12, "(0 12)", 3), (12, "(11 011)", 4), (12, "(1 11 1)", 6), (1, "(1)", 1), (2, "(" + "9" * 6000, 1),
            (2, "(0 " + "0" * 6000 + ")", 3), (4, "(0 1\u0663)", 4), (4, "(\u00b2)", 1), (3, "(0 1) 2", 6), (4, "(10", 1),
        ):
            expect(self, InvalidText, {"place": place}, read, degree, text)

    def test_wrong_values(self):
        for value in (0, 13, -1, None, True, "4", (4,), [4], {}):
            expect(self, BadDegree, {}, read, value, None)
            expect(self, BadDegree, {}, read, value, "()")
        for value in (None, True, 0, ("()",), ["()"], {}, ()):
            expect(self, NotText, {}, read, 4, value)


if __name__ == "__main__":
    unittest.main()
