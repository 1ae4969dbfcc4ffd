import itertools
import unittest

from brute import MATHIEU_11, SMALL, SQUARE, closure, cyc, expect, members, one, ring, symmetric, times, turned
from known import KNOWN, NO_PRESENTATIONS, NO_WORDS, some_word
from small import ALTERNATING_5, FIVE_PAIRS, LINEAR_168, QUATERNIONS, TOO_GREAT, UP_TO_24
from stronggens.automorphisms import automorphisms
from stronggens.errors import BadGroup, BadPresentation, TooMany
from stronggens.solutions import count_images, count_onto, list_images
from test_primes import WRONG_GROUPS

FUNCTIONS = (count_images, count_onto, list_images)
THREE = (3, ((1, 2, 0), (1, 0, 2)))
PRESENTATIONS = tuple(presentation for presentation, _, _ in KNOWN if presentation[0] < 4) + (
    (1, ()), (1, ((),)), (1, ((1, 1, 1, -1), (1,) * 6)), (1, ((1,) * 4, (-1,) * 6)), (1, ((1, -1),)), (2, ()), (2, ((1, 1),)), (2, ((2, 2, 2),)),
    (2, ((1, 2, -1, -2),)), (2, ((1, 2, 1, -2), (2, 2, 2, 2))), (2, ((1, 1, 2, 2), (1, 2, 1, 2))), (2, ((1,), (2,))), (2, ((1, -2),)),
    (2, ((2, 1, 1, -2), (2, -2, 1, 1, 1))), (3, ()), (3, ((1, 2, 3),)), (3, ((1, 2, -1, -2), (3, 3), (2, 3, 2, 3))), (3, ((2,), (1, 3, 1, 3))),
    (3, ((3, 1, -3, -1, -1),)),
)


def value_of(told, word):
    made = tuple(range(len(told[0]))) if told else None
    for letter in word:
        made = times(made, told[letter - 1] if letter > 0 else turned(told[-letter - 1]))
    return made


def by_tuples(presentation, group):
    rows = members(group)
    return [told for told in itertools.product(rows, repeat=presentation[0])
            if all(not word or value_of(told, word) == one(group[0]) for word in presentation[1])]


class TestAnswers(unittest.TestCase):
    def check(self, presentation, group):
        expected = by_tuples(presentation, group)
        size = len(members(group))
        self.assertEqual(count_images(presentation, group), len(expected))
        onto = [told for told in expected if len(closure(group[0], told)) == size]
        self.assertEqual(count_onto(presentation, group), len(onto))
        if len(expected) <= 2000:
            self.assertEqual(list_images(presentation, group), expected)
        else:
            expect(self, TooMany, {"most": 2000}, list_images, presentation, group)

    def test_all_tuples(self):
        for presentation in PRESENTATIONS:
            for group in SMALL + (QUATERNIONS,):
                if len(members(group)) ** presentation[0] <= 700:
                    self.check(presentation, group)

    def test_random_relators(self):
        for seed in range(150):
            many = 1 + seed % 3
            relators = tuple(some_word(many, 1 + (seed * 5 + k) % 7, seed + 31 * k) for k in range(seed % 4))
            group = (SMALL + (QUATERNIONS,))[seed * 7 % (len(SMALL) + 1)]
            if len(members(group)) ** many <= 700:
                self.check((many, relators), group)

    def test_no_generators(self):
        for group in (THREE, SQUARE, (2, ((0, 1),)), (1, ())) + TOO_GREAT:
            for presentation in ((0, ()), (0, ((), ()))):
                self.assertEqual(count_images(presentation, group), 1)
                self.assertEqual(list_images(presentation, group), [()])
                self.assertEqual(count_onto(presentation, group), 1 if len(set(group[1]) - {one(group[0])}) == 0 else 0)

    def test_greater_groups(self):
        self.assertEqual(count_images((2, ((1, 2, -1, -2),)), LINEAR_168), 168 * 6)
        self.assertEqual(count_images((2, ()), ALTERNATING_5), 3600)
        self.assertEqual(count_onto((2, ()), ALTERNATING_5), 19 * 120)
        self.assertEqual(count_onto((2, ((1, 1), (2, 2, 2), (1, 2) * 5)), ALTERNATING_5), 120)
        self.assertEqual(count_onto((2, ((1, 1), (2, 2, 2), (1, 2) * 7)), LINEAR_168), 336)
        self.assertEqual(count_images((1, ((1, 1),)), symmetric(8)), 764)
        self.assertEqual(count_images((1, ((1,) * 11,)), MATHIEU_11), 1441)
        self.assertEqual(count_images((1, ((1,) * 60, (1,) * 45)), symmetric(6)), count_images((1, ((1,) * 15,)), symmetric(6)))
        self.assertEqual(count_onto((1, ()), symmetric(6)), 0)
        self.assertEqual(count_onto((1, ()), (12, (cyc(12, (0, 1, 2), (3, 4, 5, 6), (7, 8, 9, 10, 11)),))), 16)
        self.assertEqual(count_onto((3, ()), FIVE_PAIRS), 0)
        self.assertEqual(count_onto((5, ()), (4, ((1, 0, 3, 2),))), 31)

    def test_what_solomon_and_automorphisms_tell(self):
        for presentation in PRESENTATIONS:
            for group in UP_TO_24:
                size = len(members(group))
                if size ** presentation[0] <= 20000:
                    if len(presentation[1]) < presentation[0]:
                        self.assertEqual(count_images(presentation, group) % size, 0)
                    if size <= 12:
                        self.assertEqual(count_onto(presentation, group) % len(automorphisms(group)), 0)


class TestTooMany(unittest.TestCase):
    def test_tried(self):
        wide = (12, (cyc(12, range(5)), cyc(12, (1, 4), (2, 3)), cyc(12, range(5, 10)), cyc(12, (6, 9), (7, 8)), cyc(12, (5, 6, 7, 8, 9), (10, 11))))
        self.assertEqual(len(members(wide)), 200)
        for function in FUNCTIONS:
            expect(self, TooMany, {"most": 250000}, function, (3, ((1,), (2,), (3,))), wide)
            expect(self, TooMany, {"most": 250000}, function, (2, ((1,), (2,))), symmetric(6))
            expect(self, TooMany, {"most": 250000}, function, (1, ((1,),)), symmetric(9))
            expect(self, TooMany, {"most": 250000}, function, (12, tuple((k,) for k in range(1, 13))), (3, (ring(3),)))
            expect(self, TooMany, {"most": 250000}, function, (12, ()), TOO_GREAT[1])
        self.assertEqual(count_images((12, tuple((k,) for k in range(1, 13))), (2, ((1, 0),))), 1)
        self.assertEqual(count_images((12, ()), (2, ((1, 0),))), 4096)
        self.assertEqual(count_images((12, ()), (12, ())), 1)
        self.assertEqual(count_images((3, ((1, 2, 3),)), ALTERNATING_5), 3600)
        self.assertEqual(count_images((2, ((1,), (2, 2))), (12, wide[1])), 1 + len([p for p in members(wide)[1:] if times(p, p) == one(12)]))

    def test_listed(self):
        self.assertEqual(len(list_images((1, ()), (6, (ring(6), cyc(6, (0, 1)))))), 720)
        expect(self, TooMany, {"most": 2000}, list_images, (1, ()), symmetric(7))
        expect(self, TooMany, {"most": 2000}, list_images, (2, ()), ALTERNATING_5)
        expect(self, TooMany, {"most": 2000}, list_images, (11, ()), (2, ((1, 0),)))
        self.assertEqual(len(list_images((10, ()), (2, ((1, 0),)))), 1024)
        ten_by_two = (9, (cyc(9, range(5)), cyc(9, (5, 6)), cyc(9, (7, 8))))
        self.assertEqual(len(list_images((3, ((3,) * 5,)), ten_by_two)), 2000)
        expect(self, TooMany, {"most": 2000}, list_images, (3, ((3,) * 10,)), ten_by_two)
        self.assertEqual(list_images((11, ((1,),)), (2, ()))[0], ((0, 1),) * 11)


class TestErrors(unittest.TestCase):
    def test_order(self):
        for function in FUNCTIONS:
            for value in NO_PRESENTATIONS:
                expect(self, BadPresentation, {"index": None}, function, value, None)
            for value in NO_WORDS:
                expect(self, BadPresentation, {"index": 1}, function, (2, ((1,), value)), None)
            for value, index in WRONG_GROUPS:
                expect(self, BadGroup, {"index": index}, function, (12, ()), value)
                expect(self, BadGroup, {"index": index}, function, (0, ()), value)


if __name__ == "__main__":
    unittest.main()
