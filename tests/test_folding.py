import itertools
import unittest

from brute import ODD_VALUES, expect
from known import NO_WORDS, back, lead, reduced_word, some_word
from stronggens.cosets import coset_table
from stronggens.errors import BadNumber, BadWord, BadWords
from stronggens.folding import (
    folded, free_index, free_meet, free_program, free_rank, separated, shows_separated,
)

WORD_FUNCTIONS = (free_program, separated)


def reduced_words(many, size):
    letters = [letter for k in range(1, many + 1) for letter in (k, -k)]
    row = [()]
    for _ in range(size + 1):
        yield from row
        row = [word + (letter,) for word in row for letter in letters if word[-1:] != (-letter,)]


def all_words():
    yield from ((0, ()), (0, ((), ())), (1, ()), (1, ((),)), (1, ((1,),)), (1, ((1, 1), (1, 1, 1))), (1, ((1,) * 4, (-1,) * 6)),
                (2, ()), (2, ((1, -1), ())), (2, ((1, 2), (2, 1))), (2, ((1, 2, -1), (2,))), (2, ((1, 1), (1, 2, -1), (2,))),
                (2, ((1, 2, -1, -2),)), (2, ((1, 1), (2, 2), (1, 2))), (2, ((1,) * 18, (1, 2) * 9)), (12, ((12,), (1, 12, -1))),
                (3, ((1, 2, 3), (1, 2, 1), (-3, -2, 2, 1))), (2, ((1, 2, 1), (1, 2, -1), (1, 1))), (2, ((2, 1, 1, -2), (2, 1, 1, 1, -2))))
    for seed in range(40):
        many = 1 + seed % 3
        one, other = some_word(many, seed % 5 + 1, seed), some_word(many, seed % 4 + 1, seed + 50)
        yield many, (one, other)
        yield many, (one, other + one + back(other))
        yield many, (one + one, other, one + other, back(other) + one)
        yield many, (one * 2, one * 3, other + other + one)


def some_words():
    """Pairs of a number of generators and words: conjugates, powers and products of one another, and none."""
    return [(many, words) for many, words in all_words() if sum(map(len, words)) <= 36]


def in_subgroup(many, words, word, size):
    """Whether a word is a product of the words with few factors; just a test from one side."""
    found = {()}
    row = {()}
    for _ in range(size):
        row = {reduced_word(a + b) for a in row for w in words for b in (w, back(w))} - found
        found |= row
    return reduced_word(word) in found


def product_of(words, program):
    """The value of a program over words."""
    values = []
    for step in program:
        if step[0] == "gen":
            values.append(reduced_word(words[step[1]]))
        elif step[0] == "inv":
            values.append(back(values[step[1]]))
        else:
            values.append(reduced_word(values[step[1]] + values[step[2]]))
    return values[-1] if values else ()


class TestFolded(unittest.TestCase):
    def check_partial(self, many, table):
        """Everything that a partial table has, but for the words that lead from row 0 back to it."""
        self.assertIs(type(table), tuple)
        appeared = [0]
        for row, targets in enumerate(table):
            self.assertTrue(type(targets) is tuple and len(targets) == 2 * many)
            for column, target in enumerate(targets):
                if target is not None:
                    self.assertEqual(table[target][column ^ 1], row)
                    if target not in appeared:
                        appeared.append(target)
            if row > 0:
                self.assertGreaterEqual(len([target for target in targets if target is not None]), 2)
            self.assertGreater(len(appeared), row)
        self.assertEqual(appeared, list(range(len(table))))

    def test_properties(self):
        for many, words in some_words():
            table = folded(many, words)
            self.check_partial(many, table)
            for word in words:
                self.assertEqual(lead(table, 0, reduced_word(word)), 0)

    def test_words_of_the_subgroup(self):
        for many, words in some_words():
            if many < 3 and sum(map(len, words)) < 20:
                table = folded(many, words)
                for word in reduced_words(many, 5 if many == 2 else 8):
                    if in_subgroup(many, words, word, 3):
                        self.assertEqual(lead(table, 0, word), 0)

    def test_other_generators_of_the_subgroup(self):
        for many, words in some_words():
            table = folded(many, words)
            self.assertEqual(folded(many, words[::-1]), table)
            self.assertEqual(folded(many, tuple(back(word) for word in words)), table)
            if len(words) == 2 and sum(map(len, words)) < 12:
                one, other = words
                self.assertEqual(folded(many, (one + other, other)), table)
                self.assertEqual(folded(many, (one, back(one) + other + one, ())), table)
                self.assertEqual(folded(many, (one + back(one) + other, other + one)), table)

    def test_known_tables(self):
        self.assertEqual(folded(0, ()), ((),))
        self.assertEqual(folded(2, ()), ((None,) * 4,))
        self.assertEqual(folded(2, ((1,), (2,))), ((0, 0, 0, 0),))
        self.assertEqual(folded(1, ((1,) * 4, (1,) * 6)), ((1, 1), (0, 0)))
        self.assertEqual(folded(2, ((2, 1, -2),)), ((None, None, 1, None), (1, 1, None, 0)))
        self.assertEqual(folded(2, ((1, 2), (1, -2))), ((1, None, 1, 1), (None, 0, 0, 0)))
        self.assertEqual(folded(2, ((1, 1), (1, 2), (1, -1))), ((1, 1, None, 1), (0, 0, 0, None)))
        self.assertEqual(len(folded(2, ((1,) * 36,))), 36)

    def test_rank_and_index(self):
        for many, words in some_words():
            table = folded(many, words)
            known = [target for row in table for target in row if target is not None]
            self.assertEqual(free_rank(many, words), len(known) // 2 - len(table) + 1)
            self.assertLessEqual(free_rank(many, words), len(words))
            if any(None in row for row in table):
                self.assertIsNone(free_index(many, words))
            else:
                self.assertEqual(free_index(many, words), len(table))
                self.assertEqual(table, coset_table((many, ()), words, "rows"))
        self.assertEqual([free_rank(2, ()), free_rank(0, ()), free_index(0, ()), free_index(1, ()), free_index(2, ((1,), (2,)))], [0, 0, 1, None, 1])
        self.assertEqual([free_rank(2, ((1, 1), (2,), (1, 2, -1))), free_index(2, ((1, 1), (2,), (1, 2, -1)))], [3, 2])


class TestPrograms(unittest.TestCase):
    def check(self, many, words, word):
        told = free_program(many, words, word)
        if lead(folded(many, words), 0, reduced_word(word)) != 0:
            self.assertIsNone(told)
            return False
        self.assertTrue(type(told) is tuple and len(told) <= 2000)
        for place, step in enumerate(told):
            self.assertTrue(type(step) is tuple and step[0] in ("gen", "mul", "inv"))
            if step[0] == "gen":
                self.assertTrue(len(step) == 2 and 0 <= step[1] < len(words))
            else:
                self.assertEqual(len(step), 3 if step[0] == "mul" else 2)
                self.assertTrue(all(0 <= operand < place for operand in step[1:]))
        self.assertEqual(product_of(words, told), reduced_word(word))
        return True

    def test_values(self):
        for many, words in some_words():
            for word in words:
                self.assertTrue(self.check(many, words, word))
                self.assertTrue(self.check(many, words, back(word)))
            for seed in range(12):
                letters = ()
                for k in range(seed):
                    if words:
                        letters += (words + tuple(map(back, words)))[(seed * 5 + 3 * k * k + k) % (2 * len(words))]
                if len(letters) <= 60:
                    self.assertTrue(self.check(many, words, letters))
                self.check(many, words, some_word(many, seed % 6, seed))

    def test_all_short_words(self):
        cases = ((2, ((1, 1), (2, 2), (1, 2))), (2, ((1, 2, 1), (1, 2, -1), (1, 1))), (2, ((1, 2, -1), (2, 1, 1), (2, 2, 2))), (2, ((1, 1, 2), (2, 1))),
                 (2, ((1, 1, 1, 2), (1, 2, 2), (2, 1, -2, 1))))
        for many, words in cases:
            found = [self.check(many, words, word) for word in reduced_words(many, 6)]
            self.assertTrue(True in found and False in found)

    def test_words_that_fold_much(self):
        words = ((1, 2, 1, 2, 1, 2), (1, 2, 1, 2), (1, 1, 2, 2, 1, 1), (2, 1, 2, 1, 2), (-1, 2, 1, 2, 2), (2, 2, 1, 1, 2))
        for seed in range(60):
            self.check(2, words, some_word(2, seed, seed))
        self.assertTrue(self.check(2, words, (1, 2) * 30))
        self.assertTrue(self.check(1, ((1,) * 15, (1,) * 10, (1,) * 6), (-1,) * 60))
        self.assertTrue(self.check(12, tuple((1, k) for k in range(1, 7)), (1, 2, -3, -1, 1, 4)))

    def test_the_empty_word(self):
        for many, words in some_words():
            self.assertTrue(self.check(many, words, ()))
        self.assertEqual(free_program(2, ((1,),), (2, -2)), ())
        self.assertIsNone(free_program(2, (), (1,)))
        self.assertIsNone(free_program(2, ((1, -1),), (1,)))


class TestMeet(unittest.TestCase):
    def test_against_both(self):
        cases = [(many, words) for many, words in some_words() if many == 2 and sum(map(len, words)) < 18]
        for (many, one), (_, other) in zip(cases, cases[3:] + cases[:3]):
            self.check(many, one, other)
            self.check(many, one, one)
        for many, one, other in ((1, ((1,) * 6,), ((1,) * 4,)), (0, (), ((),)), (2, (), ((1,),)), (2, ((1,), (2,)), ((1, 2, -1),)),
                                 (2, ((1, 1), (2,), (1, 2, -1)), ((1,), (2, 2), (2, 1, -2))), (3, ((1, 2), (2, 3)), ((1, 2, 3), (2, 3))),
                                 (2, ((1, 1), (2, 2)), ((1, 1, 1), (2, 2, 2)))):
            self.check(many, one, other)
            self.check(many, other, one)

    def check(self, many, one, other):
        table = free_meet(many, one, other)
        TestFolded.check_partial(self, many, table)
        some, others = folded(many, one), folded(many, other)
        for word in reduced_words(many, 6 if many > 1 else 14):
            both = lead(some, 0, word) == 0 and lead(others, 0, word) == 0
            self.assertEqual(lead(table, 0, word) == 0, both, word)
        ranks = [self.rank(rows) for rows in (some, others, table)]
        if min(ranks) > 0:
            self.assertLessEqual(ranks[2] - 1, (ranks[0] - 1) * (ranks[1] - 1))
        if one == other:
            self.assertEqual(table, some)

    def rank(self, table):
        return len([target for row in table for target in row if target is not None]) // 2 - len(table) + 1

    def test_known_meets(self):
        self.assertEqual(free_meet(1, ((1, 1),), ((1, 1, 1),)), folded(1, ((1,) * 6,)))
        self.assertEqual(free_meet(2, ((1,),), ((2,),)), folded(2, ()))
        self.assertEqual(free_meet(2, ((1,), (2,)), ((1, 2), (2, 1, 1))), folded(2, ((1, 2), (2, 1, 1))))
        self.assertEqual(len(free_meet(1, ((1,) * 36,), ((1,) * 35,))), 36 * 35)
        self.assertEqual(free_meet(2, ((1, 2, 1, -2),), ((1, 2, 2, 1),)), ((None,) * 4,))


class TestSeparated(unittest.TestCase):
    def check(self, many, words, word):
        told = separated(many, words, word)
        if lead(folded(many, words), 0, reduced_word(word)) == 0:
            self.assertIsNone(told)
            return
        self.assertTrue(type(told) is tuple and len(told) == many)
        degree = len(told[0])
        self.assertTrue(1 <= degree <= 100)
        self.assertTrue(all(type(p) is tuple and sorted(p) == list(range(degree)) for p in told))
        self.assertTrue(all(self.image(told, told_word) == 0 for told_word in words))
        self.assertNotEqual(self.image(told, word), 0)
        self.assertIs(shows_separated(many, words, word, told), True)

    def image(self, perms, word):
        point = 0
        for letter in word:
            point = perms[letter - 1][point] if letter > 0 else perms[-letter - 1].index(point)
        return point

    def test_what_they_must_do(self):
        for many, words in some_words():
            for seed in range(10):
                self.check(many, words, some_word(many, seed * 2, seed))
            for word in words:
                self.assertIsNone(separated(many, words, word))
        self.check(2, ((1,) * 36,), (2, 1) * 30)
        self.check(12, (), tuple(range(1, 13)) * 5)
        self.check(2, ((1, 2, 2, 1, 2, 1) * 6,), (2, 2, 1, 2, 1, 1) * 10)

    def test_shows_all_pairs_of_small_permutations(self):
        cases = ((2, ((1, 2),), (1,)), (2, ((1, 1), (2, 1, -2)), (2,)), (2, ((1,),), (1, 1)), (2, (), (1, -1)), (2, (), (1, 2, -1)))
        for many, words, word in cases:
            for degree in (1, 2, 3):
                for told in itertools.product(itertools.permutations(range(degree)), repeat=2):
                    fits = all(self.image(told, w) == 0 for w in words) and self.image(told, word) != 0
                    self.assertIs(shows_separated(many, words, word, told), fits)

    def test_bent_values(self):
        good = ((1, 2, 0), (0, 2, 1))
        told = (2, ((2,), (1, 1, 1)), (1,))
        self.assertIs(shows_separated(*told, good), True)
        bent = (None, True, 0, "", (), [], {}, list(good), good[:1], good + good[:1], good[::-1], ((1, 2, 0), [0, 2, 1]), ((1, 2, 0), (0, 1)),
                ((1, 2, 0), (0, 1, 2, 3)), ((1, 2, 0), (0, 2, 2)), ((1, 2, 0), (0, 2, True)), ((1, 2, 0), (0, 2, 3)), ((1, 2, 0), None), ((), ()),
                ((1, 2, False), (0, 2, 1)), ((0,), (0,)), ((1, 2, 0), "021"), (tuple(range(1, 101)) + (0,), tuple(range(101))))
        for value in bent + ODD_VALUES:
            self.assertIs(shows_separated(*told, value), False, value)
        wide = (tuple(range(1, 100)) + (0,), tuple(range(100)))
        self.assertIs(shows_separated(2, ((2,),), (1,), wide), True)
        self.assertIs(shows_separated(2, ((2,),), (1,), (tuple(range(1, 101)) + (0,), tuple(range(101)))), False)
        self.assertIs(shows_separated(0, (), (), ()), False)
        self.assertIs(shows_separated(0, ((),), (), ((0,),)), False)
        self.assertIs(shows_separated(1, ((1, 1),), (1, 1), ((1, 0),)), False)


class TestErrors(unittest.TestCase):
    def test_numbers(self):
        for value in (None, True, -1, 13, "2", (2,), [2], {}, 10 ** 30):
            for function in (folded, free_rank, free_index):
                expect(self, BadNumber, {}, function, value, None)
            for function in WORD_FUNCTIONS:
                expect(self, BadNumber, {}, function, value, None, None)
            expect(self, BadNumber, {}, free_meet, value, None, None)
            expect(self, BadNumber, {}, shows_separated, value, None, None, None)

    def test_words(self):
        wrong = [(value, None) for value in (None, True, 1, "ab", [], {}, ((1,),) * 7, ((1,) * 36, (2,)), ((1,) * 37,))]
        wrong += [((value, None), 0) for value in NO_WORDS] + [(((1,), (), value), 2) for value in NO_WORDS]
        for value, index in wrong:
            for function in (folded, free_rank, free_index):
                expect(self, BadWords, {"index": index}, function, 2, value)
            for function in WORD_FUNCTIONS:
                expect(self, BadWords, {"index": index}, function, 2, value, None)
            expect(self, BadWords, {"index": index}, shows_separated, 2, value, None, None)
            expect(self, BadWords, {"index": index}, free_meet, 2, value, ((3,),))
            expect(self, BadWords, {"index": index}, free_meet, 2, ((1,),), value)

    def test_word(self):
        for value, index in ((None, None), (True, None), ("a", None), ([1], None), ({}, None), ((1,) * 61, None), ((1, 3), 1), ((0,), 0),
                             ((1, 2, True), 2), ((1, None), 1), (("1",), 0)):
            for function in WORD_FUNCTIONS:
                expect(self, BadWord, {"index": index}, function, 2, ((1,),), value)
            expect(self, BadWord, {"index": index}, shows_separated, 2, ((1,),), value, None)


if __name__ == "__main__":
    unittest.main()
