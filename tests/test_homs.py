import itertools
import unittest

from brute import ODD_VALUES, SQUARE, closure, cyc, expect, members, one, ring, run_steps, symmetric, times, turned
from small import (
    GREAT, TOO_GREAT, UP_TO_24, UP_TO_60, all_subgroups, as_group, conj, normal_ones,
)
from stronggens.errors import (
    BadGroup, BadImages, BadPermutation, NotExtending, NotMember, NotNormal, NotSubgroup, TooMany,
)
from stronggens.homs import (
    above_kernel, carried, extends, image_group, kernel, map_gap, preimage, quotient, shows_not,
)
from test_primes import WRONG_GROUPS

THREE, FLIP = (3, ((1, 2, 0), (1, 0, 2))), (2, ((1, 0),))
FUNCTIONS = (extends, map_gap, kernel, image_group, above_kernel)


def mapping_of(source, target, images):
    """The dict of the homomorphism, None if there is none: the pairs must not have two with one first part."""
    start = (one(source[0]), one(target[0]))
    found = {start}
    queue = [start]
    for p, q in queue:
        for g, h in zip(source[1], images):
            pair = (times(p, g), times(q, h))
            if pair not in found:
                found.add(pair)
                queue.append(pair)
    return dict(found) if len(dict(found)) == len(found) else None


def signs(group):
    """Images of the generators by their signs."""
    return tuple((0, 1) if sum(p[a] > p[b] for a in range(len(p)) for b in range(a, len(p))) % 2 == 0 else (1, 0) for p in group[1])


def cases():
    """Groups with images of all kinds: such that extend, signs, conjugates, and images changed in one place."""
    pairs = [(one_group, other) for one_group in UP_TO_24[:18] for other in (FLIP, THREE, (4, (ring(4),)), (1, ()))]
    for source, target in pairs:
        rows = members(target)
        if len(rows) ** len(source[1]) <= 64:
            for images in itertools.product(rows, repeat=len(source[1])):
                yield source, target, images
    for group in UP_TO_60:
        rows = members(group)
        yield group, FLIP, signs(group)
        for k in range(2):
            g = rows[(7 * k + 3) % len(rows)]
            images = tuple(conj(p, g) for p in group[1])
            yield group, group, images
            yield group, group, images[:k] + (rows[-1 - k % len(rows)],) * (len(images) > k) + images[k + 1:]
            yield group, group, tuple(times(p, p) for p in group[1])


class TestExtends(unittest.TestCase):
    def test_all_kinds(self):
        kinds = {True: 0, False: 0}
        for source, target, images in cases():
            table = mapping_of(source, target, images)
            self.assertIs(extends(source, target, images), table is not None)
            kinds[table is not None] += 1
            gap = map_gap(source, target, images)
            self.assertEqual(gap is None, table is not None)
            if gap is not None:
                self.assertTrue(type(gap) is tuple and len(gap) <= 2000)
                self.assertEqual(run_steps(source[0], source[1], gap), one(source[0]))
                self.assertNotEqual(run_steps(target[0], images, gap), one(target[0]))
                self.assertIs(shows_not(source, target, images, gap), True)
            else:
                self.check_map(source, target, images, table)
        self.assertTrue(kinds[True] > 100 and kinds[False] > 100, kinds)

    def check_map(self, source, target, images, table):
        self.assertEqual([carried(source, target, images, p) for p in members(source)[:12]], [table[p] for p in members(source)[:12]])
        low = kernel(source, target, images)
        self.assertTrue(low[0] == source[0] and len(low[1]) <= 12)
        self.assertEqual(members(low), sorted(p for p, q in table.items() if q == one(target[0])))
        high = image_group(source, target, images)
        self.assertTrue(high[0] == target[0] and len(high[1]) <= 12)
        self.assertEqual(members(high), sorted(set(table.values())))
        for q in members(target)[:6]:
            self.assertEqual(preimage(source, target, images, q), tuple(sorted(p for p in table if table[p] == q)))

    def test_greater_groups(self):
        six = symmetric(6)
        # The one that no conjugation gives (O. Hoelder, 1895) carries transpositions to products of three.
        turn, flip = ring(6), cyc(6, (0, 1))
        self.assertIs(extends(six, FLIP, ((1, 0), (1, 0))), True)
        self.assertIs(extends(six, FLIP, ((0, 1), (1, 0))), False)
        self.assertEqual(len(members(kernel(six, FLIP, ((1, 0), (1, 0))))), 360)
        outer = [(p, q) for p in [cyc(6, (0, 1), (2, 3), (4, 5))] for q in members(six)
                 if extends(six, six, (q, p)) and len(members((6, (q, p)))) == 720]
        self.assertEqual(len(outer), 48)
        self.assertEqual(len(preimage(six, FLIP, ((1, 0), (1, 0)), (1, 0))), 360)
        self.assertEqual(carried(six, six, (turned(turn), flip), one(6)) if extends(six, six, (turned(turn), flip)) else one(6), one(6))
        great = symmetric(12)
        self.assertIs(extends(FLIP, great, (cyc(12, (0, 1), (2, 3)),)), True)
        self.assertIs(extends(FLIP, great, (cyc(12, (0, 1, 2)),)), False)
        gap = map_gap(FLIP, great, (cyc(12, range(12)),))
        self.assertIs(shows_not(FLIP, great, (cyc(12, range(12)),), gap), True)

    def test_edges(self):
        self.assertIs(extends((1, ()), (1, ()), ()), True)
        self.assertIs(extends((3, ()), TOO_GREAT[0], ()), True)
        self.assertIs(extends((1, ((0,), (0,))), (1, ()), ((0,), (0,))), True)
        self.assertIs(extends((1, ((0,),)), FLIP, ((1, 0),)), False)
        self.assertIs(extends((2, ((1, 0), (1, 0))), FLIP, ((1, 0), (0, 1))), False)
        self.assertIs(extends((2, ((1, 0), (1, 0))), FLIP, ((1, 0), (1, 0))), True)
        self.assertEqual(members(image_group((3, ()), FLIP, ())), [(0, 1)])
        self.assertEqual(preimage((3, ()), FLIP, (), (1, 0)), ())
        self.assertEqual(members(kernel(THREE, (1, ()), ((0,), (0,)))), members(THREE))


class TestShowsNot(unittest.TestCase):
    def test_all_short_programs(self):
        steps = [("gen", 0), ("gen", 1)] + [("mul", a, b) for a in (0, 1) for b in (0, 1)] + [("inv", 0), ("inv", 1)]
        images = ((1, 0), (1, 0))
        shown = 0
        for size in range(4):
            for value in itertools.product(steps, repeat=size):
                good = all(place > max(step[1:]) if step[0] != "gen" else True for place, step in enumerate(value))
                fits = good and run_steps(3, THREE[1], value) == one(3) and run_steps(2, images, value) != one(2)
                shown += fits
                self.assertIs(shows_not(THREE, FLIP, images, value), fits)
        self.assertGreater(shown, 0)

    def test_bent_values(self):
        good = (("gen", 0), ("mul", 0, 0), ("mul", 1, 0))
        images = ((1, 0), (1, 0))
        self.assertIs(shows_not(THREE, FLIP, images, good), True)
        bent = (list(good), good[:2], good[1:], good + (("gen", 2),), good + (("mul", 2, 3),), (["gen", 0],) + good[1:], (("gen", False),) + good[1:],
                (("gen",),) + good[1:], good + (("inv", True),), good + (None,), good + (("add", 0, 1),), good + (([], 0),), (), good + (("gen", -1),))
        for value in bent + ODD_VALUES:
            self.assertIs(shows_not(THREE, FLIP, images, value), False, value)
        self.assertIs(shows_not(THREE, FLIP, images, good + (("inv", 2),)), True)
        long = good + (("inv", 2),) * 1997
        self.assertIs(shows_not(THREE, FLIP, images, long), True)
        self.assertIs(shows_not(THREE, FLIP, images, long + (("inv", 2),)), False)
        self.assertIs(shows_not(THREE, FLIP, ((0, 1), (1, 0)), good), False)

    def test_great_sources(self):
        for great in TOO_GREAT:
            images = tuple((1, 0) for _ in great[1])
            value = (("gen", 1), ("mul", 0, 0))
            self.assertIs(shows_not(great, FLIP, images, value), False)
            self.assertIs(shows_not(great, (3, (ring(3),)), (one(3), ring(3)), value), True)


class TestQuotient(unittest.TestCase):
    def test_by_cosets(self):
        for group in UP_TO_60:
            rows = members(group)
            for part in normal_ones(group):
                cosets = sorted({tuple(sorted(times(h, p) for h in part)) for p in rows})
                if len(cosets) > 12:
                    expect(self, TooMany, {"most": 12}, quotient, group, as_group(part))
                    continue
                moves = []
                for g in group[1]:
                    images = [cosets.index(tuple(sorted(times(p, g) for p in told))) for told in cosets]
                    moves.append(tuple(images))
                self.assertEqual(quotient(group, as_group(part)), (len(cosets), tuple(moves)))
                self.assertEqual(len(closure(len(cosets), moves)), len(cosets))

    def test_greater_groups(self):
        six, even = symmetric(6), (6, (cyc(6, (0, 1, 2, 3, 4)), cyc(6, (3, 4, 5))))
        self.assertEqual(quotient(six, even), (2, ((1, 0), (1, 0))))
        self.assertEqual(quotient(six, six), (1, ((0,), (0,))))
        expect(self, TooMany, {"most": 12}, quotient, six, (6, ()))
        self.assertEqual(quotient((1, ()), (1, ())), (1, ()))

    def test_errors(self):
        for value, index in WRONG_GROUPS:
            expect(self, BadGroup, {"index": index}, quotient, value, None)
            expect(self, BadGroup, {"index": index}, quotient, THREE, value)
        for part in ((2, ()), (4, ()), (3, ((1, 0, 2),)), (4, ((1, 0, 2, 3),))):
            expect(self, NotSubgroup, {}, quotient, (3, (ring(3),)), part)
        expect(self, NotNormal, {}, quotient, THREE, (3, ((1, 0, 2),)))
        for great in TOO_GREAT:
            expect(self, NotNormal, {}, quotient, great, (great[0], (cyc(great[0], (0, 1)),)))
            expect(self, TooMany, {"most": 2000}, quotient, great, (great[0], ()))
            expect(self, TooMany, {"most": 2000}, quotient, great, great)


class TestAboveKernel(unittest.TestCase):
    def test_by_all_subgroups(self):
        seen = 0
        for source, target, images in cases():
            table = mapping_of(source, target, images)
            if table is None:
                expect(self, NotExtending, {}, above_kernel, source, target, images)
            elif seen < 150:
                seen += 1
                low = {p for p in table if table[p] == one(target[0])}
                expected = [(part, tuple(sorted({table[p] for p in part}))) for part in all_subgroups(source) if low <= set(part)]
                self.assertEqual(above_kernel(source, target, images), expected)

    def test_they_match_the_subgroups_of_the_image(self):
        for group, target, images in ((symmetric(4), symmetric(3), (cyc(3, (0, 2)), cyc(3, (0, 1)))), (SQUARE, FLIP, ((1, 0), (0, 1)))):
            if extends(group, target, images):
                told = above_kernel(group, target, images)
                self.assertEqual(sorted({image for _, image in told}, key=lambda part: (len(part), part)),
                                 all_subgroups((target[0], images)))
                self.assertEqual(len(told), len(all_subgroups((target[0], images))))


class TestErrors(unittest.TestCase):
    def test_groups(self):
        for value, index in WRONG_GROUPS:
            for function in FUNCTIONS:
                expect(self, BadGroup, {"index": index}, function, value, None, None)
                expect(self, BadGroup, {"index": index}, function, THREE, value, None)
            for function in (carried, preimage, shows_not):
                expect(self, BadGroup, {"index": index}, function, value, None, None, None)
                expect(self, BadGroup, {"index": index}, function, THREE, value, None, None)

    def test_images(self):
        wrong = [(value, None) for value in (None, True, 0, "", (), [], {}, ((0, 1),), [(0, 1), (0, 1)], ((0, 1),) * 3)]
        for value in ODD_VALUES + ((0, 1, 2), (0,), (True, False), [0, 1]):
            wrong += [((value, None), 0), (((1, 0), value), 1)]
        for value, index in wrong:
            for function in FUNCTIONS:
                expect(self, BadImages, {"index": index}, function, THREE, FLIP, value)
                expect(self, BadImages, {"index": index}, function, TOO_GREAT[0], FLIP, value)
            for function in (carried, preimage, shows_not):
                expect(self, BadImages, {"index": index}, function, THREE, FLIP, value, None)
        for function in FUNCTIONS:
            expect(self, BadImages, {"index": 1}, function, THREE, (2, ()), ((0, 1), (1, 0)))
            expect(self, BadImages, {"index": 0}, function, THREE, (3, (ring(3),)), ((1, 0, 2), (0, 1)))

    def test_permutations_and_members(self):
        images, turn = ((0, 1), (1, 0)), (3, (ring(3),))
        for value in ODD_VALUES + ((0, 1, 1), (0, 1), (0, 1, 2, 3), [0, 1, 2], (0, 1, True)):
            expect(self, BadPermutation, {}, carried, THREE, FLIP, images, value)
            expect(self, BadPermutation, {}, carried, THREE, FLIP, ((1, 0), (1, 0)), value)
            expect(self, BadPermutation, {}, preimage, THREE, THREE, THREE[1], value)
        expect(self, NotMember, {}, carried, turn, turn, turn[1], (1, 0, 2))
        expect(self, NotMember, {}, preimage, turn, turn, turn[1], (1, 0, 2))
        expect(self, NotMember, {}, carried, turn, FLIP, ((1, 0),), (1, 0, 2))
        expect(self, NotMember, {}, preimage, THREE, (2, ()), ((0, 1), (0, 1)), (1, 0))

    def test_too_many_then_not_extending(self):
        even = (7, (cyc(7, range(7)), cyc(7, (0, 1, 2))))
        for great in TOO_GREAT:
            bad = ((0, 1), (1, 0)) if great[0] == 7 else ((0, 1), (0, 1))
            for function in (extends, map_gap, kernel, image_group):
                expect(self, TooMany, {"most": 2000}, function, great, FLIP, bad)
            expect(self, TooMany, {"most": 60}, above_kernel, great, FLIP, bad)
            expect(self, TooMany, {"most": 2000}, carried, great, FLIP, bad, one(great[0]))
            expect(self, TooMany, {"most": 2000}, preimage, great, FLIP, bad, (0, 1))
        expect(self, NotMember, {}, carried, even, FLIP, ((1, 0), (0, 1)), cyc(7, (0, 1)))
        expect(self, TooMany, {"most": 60}, above_kernel, GREAT[0], FLIP, ((0, 1), (0, 1)))
        for function in (kernel, image_group, above_kernel):
            expect(self, NotExtending, {}, function, THREE, FLIP, ((1, 0), (1, 0)))
        expect(self, NotExtending, {}, carried, THREE, FLIP, ((1, 0), (1, 0)), one(3))
        expect(self, NotExtending, {}, preimage, THREE, FLIP, ((1, 0), (1, 0)), (0, 1))


if __name__ == "__main__":
    unittest.main()
