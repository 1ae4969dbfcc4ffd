import itertools
import unittest

from brute import ODD_VALUES, expect
from stronggens.errors import BadNumber, BadWord, InvalidText, NotText, TooMany
from stronggens.words import (
    conjugate_words, cyclically_reduced, read_word, reduced, word_root, write_word,
)

LETTERS = "abcdefghijkl"
WORD_FUNCTIONS = (reduced, cyclically_reduced, word_root, write_word)


def plain(word):
    """Remove pairs one at a time, from the right, as long as there are any."""
    word = list(word)
    places = [k for k in range(len(word) - 1) if word[k] == -word[k + 1]]
    while places:
        del word[places[-1]:places[-1] + 2]
        places = [k for k in range(len(word) - 1) if word[k] == -word[k + 1]]
    return tuple(word)


def back(word):
    return tuple(-letter for letter in word[::-1])


def all_words(many, size):
    letters = [letter for k in range(1, many + 1) for letter in (k, -k)]
    for length in range(size + 1):
        yield from itertools.product(letters, repeat=length)


def some_word(many, size, seed):
    letters = []
    for _ in range(size):
        seed = (seed * 1103515245 + 12345) % 2 ** 31
        letters.append((seed // 64 % many + 1) * (1 if seed // 4096 % 2 else -1))
    return tuple(letters)


class TestReduced(unittest.TestCase):
    def test_all_short_words(self):
        for word in all_words(2, 6):
            self.assertEqual(reduced(2, word), plain(word))

    def test_long_words(self):
        for seed in range(100):
            word = some_word(seed % 12 + 1, 60, seed)
            self.assertEqual(reduced(12, word), plain(word))
            self.assertEqual(reduced(12, word[:30] + back(word[:30])), ())
        self.assertEqual([reduced(0, ()), reduced(1, (1,) * 60), reduced(12, (12, -12))], [(), (1,) * 60, ()])

    def test_cyclically_reduced(self):
        for word in list(all_words(2, 6)) + [some_word(3, 60, seed) for seed in range(100)]:
            outer, inner = cyclically_reduced(3, word)
            self.assertEqual(outer + inner + back(outer), plain(word))
            self.assertEqual(inner == (), plain(word) == ())
            self.assertEqual(plain(inner) + plain(outer), inner + outer)
            if inner:
                self.assertNotEqual(inner[-1], -inner[0])
            else:
                self.assertEqual(outer, ())
        self.assertEqual(cyclically_reduced(2, (2, -2)), ((), ()))
        self.assertEqual(cyclically_reduced(2, (1,)), ((), (1,)))
        self.assertEqual(cyclically_reduced(2, (1, 2, 1, -2, -1)), ((1, 2), (1,)))


class TestConjugates(unittest.TestCase):
    def check(self, many, one, other, found):
        w = conjugate_words(many, one, other)
        if found:
            self.assertTrue(type(w) is tuple and len(w) <= 60)
            self.assertEqual(plain(back(w) + one + w), plain(other))
        else:
            self.assertIsNone(w)

    def test_all_short_words(self):
        rows = [word for word in all_words(2, 4)]
        kinds = {}
        for word in rows:
            core = plain(word)
            while len(core) > 1 and core[0] == -core[-1]:
                core = core[1:-1]
            kinds[word] = min([core[k:] + core[:k] for k in range(len(core))], default=())
        for one in rows[::3]:
            for other in rows[::2]:
                self.check(2, one, other, kinds[one] == kinds[other])

    def test_long_words(self):
        for seed in range(60):
            core, by = some_word(3, seed % 19 + 1, seed), some_word(3, 20, seed + 1)
            self.check(3, back(by) + core + by, core, True)
            self.check(3, core, back(by) + core + by, True)
            other = some_word(3, 20, seed + 2)
            self.check(3, back(by) + core + by, back(other) + core + other, True)
        stem = (1, 2) * 14 + (1,)
        self.check(2, stem + (2, 1) + back(stem), (2,) * 29 + (1, 2) + (-2,) * 29, True)
        self.check(2, (1,) * 60, (1,) * 59, False)
        self.check(2, (1, 2) * 30, (2, 1) * 30, True)
        self.check(12, (1, -1), (), True)
        self.check(12, (), (12,), False)
        self.check(1, (1,), (-1,), False)


class TestRoots(unittest.TestCase):
    def test_all_short_words(self):
        rows = list(all_words(2, 6))
        powers = {}
        for root in all_words(2, 6):
            if root and plain(root) == root:
                for exponent in range(1, 7):
                    value = plain(root * exponent)
                    if len(value) <= 6 and value:
                        powers.setdefault(value, {})[exponent] = root
        for word in rows:
            value = plain(word)
            if value:
                exponent = max(powers[value])
                self.assertEqual(word_root(2, word), (powers[value][exponent], exponent))
            else:
                self.assertEqual(word_root(2, word), ((), 0))

    def test_long_words(self):
        self.assertEqual(word_root(1, (1,) * 60), ((1,), 60))
        self.assertEqual(word_root(1, (-1,) * 60), ((-1,), 60))
        self.assertEqual(word_root(3, (3,) + (1, 2) * 29 + (-3,)), ((3, 1, 2, -3), 29))
        self.assertEqual(word_root(3, (3,) + (1, 2, 1) * 19 + (1, 2)), ((3,) + (1, 2, 1) * 19 + (1, 2), 1))
        self.assertEqual(word_root(3, (3, -3, 1, 2, 1, 2)), ((1, 2), 2))
        self.assertEqual(word_root(0, ()), ((), 0))
        for seed in range(60):
            root, exponent = word_root(3, some_word(3, 12, seed) * 4)
            self.assertEqual(plain(root * exponent), plain(some_word(3, 12, seed) * 4))
            self.assertEqual(exponent % 4, 0)


class TestTexts(unittest.TestCase):
    def test_write_and_read_back(self):
        for many in range(13):
            for seed in range(20):
                word = some_word(many, 60 - seed, seed) if many else ()
                text = write_word(many, word)
                self.assertEqual(len(text), len(word))
                self.assertEqual(read_word(many, text), word)
        everything = tuple(range(1, 13)) + tuple(range(-1, -13, -1))
        self.assertEqual(write_word(12, everything), LETTERS + LETTERS.upper())
        self.assertEqual([write_word(0, ()), read_word(0, "")], ["", ()])

    def test_general_texts(self):
        for text, word in (
            ("aA", (1, -1)), ("a3", (1, 1, 1)), ("a-3", (-1, -1, -1)), ("A-2", (1, 1)), ("a0", ()), ("(ab)0", ()),
            ("(ab)-1", (-2, -1)), ("(ab)-2", (-2, -1, -2, -1)), ("(a2b)2c", (1, 1, 2, 1, 1, 2, 3)), ("()", ()), ("()7", ()),
            ("()999", ()), ("(()())-999", ()), ("a0b0", ()), ("((a))", (1,)), ("((a)2)3", (1,) * 6), ("a60", (1,) * 60),
            ("((((((((a))))))))", (1,)), ("(a(bC)-1)-1", (2, -3, -1)), ("a10", (1,) * 10),
            ("(a0)999", ()), ("a-1b-1", (-1, -2)), ("(a20)3", (1,) * 60), ("(a-20)-3", (1,) * 60), ("a30b30", (1,) * 30 + (2,) * 30),
            ("l" * 60, (12,) * 60), ("a0b", (2,)), ("(ab)(ab)", (1, 2, 1, 2)), ("()" * 5000, ()),
        ):
            self.assertEqual(read_word(12, text), word, text)

    def test_places(self):
        deep = "(" * 8
        for many, text, place in (
            (2, "c", 0), (2, "abC", 2), (0, "a", 0), (12, "m", 0), (12, "aM", 1), (2, " a", 0), (2, "a b", 1), (2, "a\n", 1),
            (2, "2", 0), (2, "-1", 0), (2, "a-", 2), (2, "a--1", 2), (2, "a-0", 2), (2, "a-b", 2), (2, "a-)", 2), (2, "a01", 2),
            (2, "a00", 2), (2, "a0-1", 2), (2, "a1-1", 2), (2, "a1234", 4), (2, "a-1234", 5), (2, "a1000", 4), (2, "a+1", 1),
            (2, ")", 0), (2, "a)", 1), (2, "(a))", 3), (2, "(", 1), (2, "(a", 2), (2, "(a-", 3), (2, "((a)", 4), (2, "(2)", 1),
            (2, "(-1)", 1), (2, "(a)-", 4), (2, "(a)01", 4), (2, deep + "(", 8), (2, deep, 8), (2, deep + "a", 9),
            (2, deep + "a)(b" + ")" * 9, 20), (2, deep + "a" + ")" * 7 + deep, 23), (2, "a,b", 1), (2, "a^2", 1),
            (2, "\u00e4", 0), (2, "a\u0662", 1), (12, "\u212a", 0), (2, "a\u00b2", 1), (2, "a1.0", 2), (2, "[a]", 0),
            (2, "a9999", 4), (2, "a61)", 3), (2, "a999b-", 6), (2, "(a999)0(", 8), (2, "a" * 70 + "?", 70),
        ):
            expect(self, InvalidText, {"place": place}, read_word, many, text)

    def test_brackets_eight_and_nine_deep(self):
        self.assertEqual(read_word(1, "(" * 8 + "a" + ")2" * 5 + ")" * 3), (1,) * 32)
        self.assertEqual(read_word(1, ("(" * 8 + ")" * 8) * 3 + "a"), (1,))
        expect(self, InvalidText, {"place": 8}, read_word, 1, "(" * 9 + "a" + ")" * 9)
        expect(self, InvalidText, {"place": 8}, read_word, 1, "(" * 5000)

    def test_too_many(self):
        for text in ("a61", "a-61", "a999", "(a2)31", "(ab)-31", "a" * 61, "a60b", "(a61)0", "(a60b)0", "((a61)0)0", "a30b31",
                     "(a30b31)0", "a31A31", "a60A60a0", "(a999)0", "(a31)2", "(a6)11(b)0", "(a60)1a", "b(a999)0",
                     "(((((((a61)0)0)0)0)0)0)0", "()a61", "(aA)31", "(" + "a" * 61 + ")0", "a60()(b)"):
            expect(self, TooMany, {"most": 60}, read_word, 12, text)
        for text, size in (("(a60)", 60), ("(a60)0", 0), ("(a60)0b60", 60), ("a60b0", 60), ("(a60)-1", 60), ("a60(b0)999", 60)):
            self.assertEqual(len(read_word(12, text)), size)

    def test_against_a_plain_reader(self):
        for size in range(6):
            for signs in itertools.product("a(0)-2", repeat=size):
                self.check("".join(signs))
        for parts in itertools.product(("a", "B", "(", "()", "(a"), ("2", "-3", "0", "", "-"), (")", "b", "12", ")2"), ("", ")", "A0")):
            self.check("".join(parts))

    def check(self, text):
        told = reading(text)
        if isinstance(told, int):
            expect(self, InvalidText, {"place": told}, read_word, 2, text)
        elif told is None:
            expect(self, TooMany, {"most": 60}, read_word, 2, text)
        else:
            self.assertEqual(read_word(2, text), told, text)


def follow(state, sign):
    """What stands behind a character that can stand there: the depth and what may follow, None if it cannot."""
    depth, kind = state
    if sign in "abAB":
        return (depth, "part") if kind != "minus" else None
    if sign == "(":
        return (depth + 1, "start") if kind != "minus" and depth < 8 else None
    if sign == ")":
        return (depth - 1, "part") if kind != "minus" and depth > 0 else None
    if sign == "-":
        return (depth, "minus") if kind == "part" else None
    if sign == "0" and kind == "part":
        return depth, "start"
    if sign.isdigit() and kind in ("part", "minus") and sign != "0":
        return depth, "one digit"
    return {"one digit": (depth, "two digits"), "two digits": (depth, "start")}.get(kind) if sign.isdigit() else None


def reading(text):
    """The place of the first wrong character, None for too many letters, or the word."""
    state = (0, "start")
    for place, sign in enumerate(text):
        state = follow(state, sign)
        if state is None:
            return place
    if state[0] > 0 or state[1] == "minus":
        return len(text)
    word, _ = sequence(text, 0)
    return word


def sequence(text, place):
    """The letters of a sequence, or None, and the place behind it."""
    word = ()
    while place < len(text) and text[place] != ")":
        if text[place] == "(":
            part, place = sequence(text, place + 1)
        else:
            part = (" ab".index(text[place]),) if text[place] in "ab" else (-" AB".index(text[place]),)
        place += 1
        end = place
        while end < len(text) and text[end] in "-0123456789":
            end += 1
        exponent = int(text[place:end] or "1")
        place = end
        if word is None or part is None or len(part) * abs(exponent) > 60:
            word = None
            continue
        word += part * exponent if exponent >= 0 else back(part) * -exponent
        word = word if len(word) <= 60 else None
    return word, place


class TestErrors(unittest.TestCase):
    def test_wrong_numbers(self):
        for value in (None, True, False, -1, 13, "2", (2,), [2], {}, 10 ** 30):
            for function in WORD_FUNCTIONS:
                expect(self, BadNumber, {}, function, value, None)
            expect(self, BadNumber, {}, conjugate_words, value, None, None)
            expect(self, BadNumber, {}, read_word, value, None)

    def test_wrong_words(self):
        for function in WORD_FUNCTIONS:
            for value, index in ((None, None), ([1], None), ("a", None), ({}, None), (1, None), (True, None), ((1,) * 61, None),
                                 ((0,), 0), ((1, 3), 1), ((1, -3), 1), ((1, True), 1), ((1, 2, None), 2), (("a",), 0), (((1,),), 0),
                                 ((1, [2]), 1), ((1,) * 59 + (0,), 59), ((10 ** 30,), 0)):
                expect(self, BadWord, {"index": index}, function, 2, value)
                expect(self, BadWord, {"index": index}, conjugate_words, 2, value, None)
                expect(self, BadWord, {"index": index}, conjugate_words, 2, (1, 2), value)
            expect(self, BadWord, {"index": 0}, function, 0, (1,))

    def test_no_texts(self):
        for value in (None, True, 0, ("a",), ["a"], {}, ()):
            expect(self, NotText, {}, read_word, 2, value)
        for value in ODD_VALUES:
            if not isinstance(value, str):
                expect(self, NotText, {}, read_word, 2, value)


if __name__ == "__main__":
    unittest.main()
