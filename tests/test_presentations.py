import unittest

from brute import expect
from known import KNOWN, NO_PRESENTATIONS, NO_WORDS, back, plain_cosets, reduced_word, some_word
from stronggens.errors import BadNumber, BadPresentation, BadWord, TooMany
from stronggens.presentations import with_generator, without_generator


class TestWithGenerator(unittest.TestCase):
    def test_the_relator(self):
        self.assertEqual(with_generator((0, ()), ()), (1, ((-1,),)))
        self.assertEqual(with_generator((2, ((1, 1),)), (1, -1, 2)), (3, ((1, 1), (1, -1, 2, -3))))
        for presentation, _, size in KNOWN:
            for seed in range(4):
                word = some_word(presentation[0], seed, seed)
                made = with_generator(presentation, word)
                self.assertEqual(made, (presentation[0] + 1, presentation[1] + (word + (-presentation[0] - 1,),)))
                if size < 30:
                    self.assertEqual(len(plain_cosets(made, (), "scans")[0]), size)

    def test_limits(self):
        self.assertEqual(with_generator((11, ((1,),) * 59), (1,) * 59)[1][59], (1,) * 59 + (-12,))
        expect(self, TooMany, {"most": 12}, with_generator, (12, ()), ())
        expect(self, TooMany, {"most": 60}, with_generator, (11, ((1,),) * 60), ())
        expect(self, TooMany, {"most": 60}, with_generator, (11, ()), (1,) * 60)
        expect(self, TooMany, {"most": 12}, with_generator, (12, ((1,),) * 60), (1,) * 60)

    def test_errors(self):
        for value in NO_PRESENTATIONS:
            expect(self, BadPresentation, {"index": None}, with_generator, value, ())
            expect(self, BadPresentation, {"index": None}, without_generator, value, 1)
        for value in NO_WORDS:
            expect(self, BadPresentation, {"index": 1}, with_generator, (2, ((1,), value, None)), None)
            expect(self, BadPresentation, {"index": 0}, without_generator, (2, (value, None)), None)
        for value in (None, True, 0, "ab", [], [1], {}, (1,) * 61):
            expect(self, BadWord, {"index": None}, with_generator, (2, ()), value)
            expect(self, BadWord, {"index": None}, with_generator, (12, ((1,),) * 60), value)
        for value in (0, 3, -3, True, None, "a", (1,), [1], 10 ** 30):
            expect(self, BadWord, {"index": 2}, with_generator, (2, ()), (1, -2, value, None))
            expect(self, BadPresentation, {"index": 1}, with_generator, (2, ((), (1, value))), ())
        expect(self, BadPresentation, {"index": 0}, with_generator, (0, ((1,),)), ())


class TestWithoutGenerator(unittest.TestCase):
    def test_all_places_and_signs(self):
        for u in ((), (1,), (-3,), (1, 3), (3, -3)):
            for v in ((), (3,), (-1, 1), (1, 1)):
                for sign in (2, -2):
                    told = u + (sign,) + v
                    equal = back(u) + back(v)
                    equal = reduced_word(equal if sign > 0 else back(equal))
                    others = ((2, 2, 1), (-2, 3, -2), (1, -1), (), (3,))
                    for place in range(len(others) + 1):
                        relators = others[:place] + (told,) + others[place:]
                        self.assertEqual(without_generator((3, relators), 2), (2, self.put_in(others, equal)))

    def put_in(self, relators, word):
        found = []
        for relator in relators:
            letters = [part for letter in relator for part in ({2: word, -2: back(word)}.get(letter, (letter,)))]
            lowered = [letter - 1 if letter > 2 else letter + 1 if letter < -2 else letter for letter in letters]
            found.append(reduced_word(lowered))
        return tuple(found)

    def test_the_first_such_relator_counts(self):
        self.assertEqual(without_generator((2, ((2, 2), (2, 1, -2), (1, 2), (2,), (2, 1, 1))), 2),
                         (1, ((-1, -1), (1,), (-1,), (1,))))
        self.assertEqual(without_generator((2, ((2, -1), (1, 1, 1))), 1), (1, ((1, 1, 1),)))
        self.assertEqual(without_generator((1, ((1,), (1, 1))), 1), (0, ((),)))

    def test_none(self):
        self.assertIsNone(without_generator((2, ((1, 1, 1), (1, 1, -2))), 1))
        self.assertIsNone(without_generator((2, ((1, 2, -1, -2), (1, -1), ())), 1))
        self.assertIsNone(without_generator((3, ()), 3))
        self.assertIsNone(without_generator((2, ((1, 1),)), 2))

    def test_long_relators(self):
        word = (1,) * 20
        self.assertEqual(without_generator((2, (word + (-2,), (2, 2, 2))), 2), (1, ((1,) * 60,)))
        expect(self, TooMany, {"most": 60}, without_generator, (2, (word + (-2,), (2, 2, 2, 1))), 2)
        self.assertEqual(without_generator((2, (word + (-2,), (2, 2, 2, -1, 2, -2, 1, -1))), 2), (1, ((1,) * 59,)))
        long = (1, 2) * 29
        self.assertEqual(without_generator((3, (long + (-3,), (3, -3, 3, -3, 1))), 3), (2, ((1,),)))
        expect(self, TooMany, {"most": 60}, without_generator, (3, (long + (-3,), (3, 1, -3))), 3)
        expect(self, TooMany, {"most": 60}, without_generator, (2, ((1, 1, -2), (2,) * 31)), 2)
        self.assertEqual(without_generator((2, ((1, 1, -2), (2,) * 30)), 2), (1, ((1,) * 60,)))

    def test_the_group_stays(self):
        for presentation, _, size in KNOWN:
            for letter in range(1, presentation[0] + 1):
                made = without_generator(presentation, letter)
                if made is not None:
                    self.assertEqual(made[0], presentation[0] - 1)
                    self.assertEqual(len(plain_cosets(made, (), "scans")[0]), size)
        for seed in range(20):
            presentation, _, size = KNOWN[seed % 5 + 6]
            word = some_word(presentation[0], seed % 6, seed)
            made = with_generator(presentation, word)
            relators = tuple(reduced_word(relator) for relator in presentation[1])
            self.assertEqual(without_generator(made, made[0]), (presentation[0], relators))

    def test_errors(self):
        for value in (None, True, False, 0, 3, -1, -2, 10 ** 30, "1", (1,), [1], {}):
            expect(self, BadNumber, {}, without_generator, (2, ((1,), (2,))), value)
        expect(self, BadNumber, {}, without_generator, (0, ()), 1)
        expect(self, BadPresentation, {"index": None}, without_generator, (2,), 7)


if __name__ == "__main__":
    unittest.main()
