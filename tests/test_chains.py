import itertools
import math
import unittest

from brute import (
    MATHIEU_11, MATHIEU_12, ODD_VALUES, SMALL, SQUARE, WIDER, closure, cyc, expect, members, one, ring, shuffled,
    symmetric, times, turned,
)
from stronggens.chains import base_points, base_swap, chain, chain_gap, orbit_sizes, order, shows_chain
from stronggens.errors import BadGroup, BadNumber, BadPrefix, NotChain

PARTS = (5, (cyc(5, (0, 1, 2)), cyc(5, (3, 4))))


def prefixes(degree):
    for size in range(degree + 1):
        yield from itertools.permutations(range(degree), size)


def brute_base(group, prefix):
    """The base points and the elements that fix all base points ahead of each one."""
    rows = members(group)
    points, levels = [], []
    while len(points) < len(prefix) or len(rows) > 1:
        if len(points) < len(prefix):
            point = prefix[len(points)]
        else:
            point = min(x for x in range(group[0]) if any(p[x] != x for p in rows))
        points.append(point)
        levels.append(rows)
        rows = [p for p in rows if p[point] == point]
    return points, levels


def brute_gap(group, value):
    """What is wrong with a value, by the words of the document."""
    degree, generators = group
    if type(value) is not tuple:
        return "shape", 0
    for k, level in enumerate(value):
        if not is_shaped(degree, value[:k], level):
            return "shape", k
    made = [closure(degree, level[1]) for level in value] + [[one(degree)]]
    for i, p in enumerate(generators):
        if p not in made[0]:
            return "missing", i
    for k, (point, perms, pairs) in enumerate(value):
        images = dict(pairs)
        for i, p in enumerate(perms):
            if p not in (made[k - 1] if k else members(group)):
                return "generator", k, i
        for image in images:
            for i, p in enumerate(perms):
                if p[image] not in images:
                    return "orbit", k, image, i
        for image, p in pairs:
            if p not in made[k]:
                return "transversal", k, image
        for image, u in pairs:
            for i, s in enumerate(perms):
                if times(times(u, s), turned(images[s[image]])) not in made[k + 1]:
                    return "schreier", k, image, i
    return None


def is_shaped(degree, ahead, level):
    if type(level) is not tuple or len(level) != 3:
        return False
    point, perms, pairs = level
    points = [told[0] for told in ahead]
    if type(point) is not int or point not in range(degree) or point in points:
        return False
    if type(perms) is not tuple or type(pairs) is not tuple or any(type(x) is not tuple or len(x) != 2 for x in pairs):
        return False
    everything = list(perms) + [p for _, p in pairs]
    if any(type(p) is not tuple or any(type(x) is not int for x in p) or sorted(p) != list(range(degree))
           for p in everything):
        return False
    images = [image for image, _ in pairs]
    if any(type(x) is not int or x not in range(degree) for x in images) or sorted(set(images)) != images:
        return False
    return point in images and all(p[point] == image for image, p in pairs) and all(
        p[x] == x for p in everything for x in points)


def is_chain(group, value):
    """By the definition of a chain, not by its gaps."""
    degree, rows = group[0], members(group)
    points = [level[0] for level in value]
    if len(set(points)) != len(points):
        return False
    for point, perms, pairs in value:
        if closure(degree, perms) != rows:
            return False
        images = sorted({p[point] for p in rows})
        if [image for image, _ in pairs] != images or any(p not in rows or p[point] != image for image, p in pairs):
            return False
        rows = [p for p in rows if p[point] == point]
    return rows == [one(degree)]


class TestBasePoints(unittest.TestCase):
    def test_all_prefixes_of_small_groups(self):
        for group in SMALL:
            if group[0] > 5:
                continue
            for prefix in prefixes(group[0]):
                points, levels = brute_base(group, prefix)
                self.assertEqual(base_points(group, prefix=prefix), tuple(points))
                sizes = tuple(len({p[point] for p in rows}) for point, rows in zip(points, levels))
                self.assertEqual(orbit_sizes(group, prefix=prefix), sizes)
                value = chain(group, prefix=prefix)
                self.assertEqual([level[0] for level in value], points)
                self.assertTrue(is_chain(group, value))
                self.assertIs(shows_chain(group, value), True)

    def test_without_a_prefix(self):
        for group in SMALL + WIDER:
            points, levels = brute_base(group, ())
            self.assertEqual(base_points(group), tuple(points))
            self.assertEqual(order(group), len(members(group)))
            self.assertEqual(math.prod(orbit_sizes(group)), order(group))
            self.assertTrue(is_chain(group, chain(group)))
            self.assertIsNone(chain_gap(group, chain(group)))

    def test_trivial_groups(self):
        for degree in (1, 5, 12):
            for generators in ((), (one(degree),), (one(degree),) * 12):
                group = (degree, generators)
                self.assertEqual([base_points(group), orbit_sizes(group), order(group), chain(group)], [(), (), 1, ()])
                self.assertEqual([base_points(group, prefix=(0,)), orbit_sizes(group, prefix=(0,))], [(0,), (1,)])
                ((point, perms, pairs),) = chain(group, prefix=(0,))
                self.assertEqual([point, pairs], [0, ((0, one(degree)),)])
                self.assertIs(shows_chain(group, ()), True)
                self.assertIs(shows_chain(group, chain(group, prefix=tuple(range(degree)))), True)

    def test_great_groups(self):
        alternating = (12, tuple(cyc(12, (0, 1, k)) for k in range(2, 12)))
        wreath = (12, (cyc(12, (0, 1, 2)), cyc(12, (0, 1)), cyc(12, (0, 3, 6, 9), (1, 4, 7, 10), (2, 5, 8, 11)),
                       cyc(12, (0, 3), (1, 4), (2, 5))))
        known = ((MATHIEU_11, 7920), (MATHIEU_12, 95040), (symmetric(12), 479001600), (alternating, 239500800),
                 (wreath, 6 ** 4 * 24), ((12, (cyc(12, range(5)), cyc(12, range(5, 12)), cyc(12, (0, 1)))), 120 * 7))
        for group, number in known:
            self.assertEqual(order(group), number)
            for prefix in ((), (7,), (11, 3), tuple(range(11, -1, -1)), shuffled(12, 3)[:5]):
                if group[0] == 11 and 11 in prefix:
                    continue
                points = base_points(group, prefix=prefix)
                self.assertEqual(points[:len(prefix)], prefix)
                self.assertEqual(math.prod(orbit_sizes(group, prefix=prefix)), number)
                value = chain(group, prefix=prefix)
                self.assertEqual(tuple(level[0] for level in value), points)
                self.assertEqual(tuple(len(level[2]) for level in value), orbit_sizes(group, prefix=prefix))
                self.assertIs(shows_chain(group, value), True)
        self.assertEqual(orbit_sizes(symmetric(12)), tuple(range(12, 1, -1)))
        self.assertEqual(orbit_sizes(MATHIEU_11), (11, 10, 9, 8))
        self.assertEqual(orbit_sizes(MATHIEU_12, prefix=(5, 4, 3, 2, 1, 0)), (12, 11, 10, 9, 8, 1))
        for seed in range(30):
            group = (12, tuple(shuffled(12, 12 * seed + k) for k in range(seed % 12 + 1)))
            self.assertEqual(479001600 % order(group), 0)
            self.assertIs(shows_chain(group, chain(group)), True)

    def test_wrong_prefixes(self):
        for function in (base_points, orbit_sizes, chain):
            for value in (None, True, 0, "01", [0], {}):
                expect(self, BadPrefix, {"index": None}, function, SQUARE, prefix=value)
            for value, index in (((4,), 0), ((0, -1), 1), ((0, 1, 0), 2), ((0, 0), 1), ((True,), 0), ((1, True), 1),
                                 ((0, None), 1), (("0",), 0), (((0,),), 0), ((0, [1]), 1), ((3, 2, 1, 0, 0), 4),
                                 ((3, 2, 10 ** 30, None), 2), (({},), 0)):
                expect(self, BadPrefix, {"index": index}, function, SQUARE, prefix=value)
            with self.assertRaises(TypeError):
                function(SQUARE, (0,))


class TestGaps(unittest.TestCase):
    def check(self, group, value, kinds=None):
        told = chain_gap(group, value)
        self.assertEqual(told, brute_gap(group, value))
        self.assertIs(shows_chain(group, value), told is None)
        if kinds is not None:
            kinds.add(told and told[0])
            if told is None:
                self.assertTrue(is_chain(group, value))

    def test_chains_spoiled_in_one_place(self):
        kinds = set()
        for group in (SQUARE, symmetric(4), PARTS, (4, (cyc(4, (0, 1, 2)),)), symmetric(3), (3, ())):
            perms = [one(group[0]), *members(group), *members(symmetric(group[0]))[::5]]
            for prefix in ((), (2,), (1, 0, 2)):
                value = chain(group, prefix=prefix)
                for spoiled in self.spoiled(group[0], value, perms):
                    self.check(group, spoiled, kinds)
        self.assertEqual(kinds, {None, "shape", "missing", "generator", "orbit", "transversal", "schreier"})

    def spoiled(self, degree, value, perms):
        """Chains with one thing left out, put in, or put in the place of another."""
        for k in range(len(value)):
            yield value[:k] + value[k + 1:]
            yield value[:k] + (value[k],) + value[k:]
            if k:
                yield value[:k - 1] + (value[k], value[k - 1]) + value[k + 1:]
            point, generators, pairs = value[k]
            levels = [(other, generators, pairs) for other in range(degree)]
            for i in range(len(generators)):
                levels.append((point, generators[:i] + generators[i + 1:], pairs))
                levels += [(point, generators[:i] + (p,) + generators[i + 1:], pairs) for p in perms]
            levels += [(point, generators + (p,), pairs) for p in perms]
            for i, (image, _) in enumerate(pairs):
                levels.append((point, generators, pairs[:i] + pairs[i + 1:]))
                levels += [(point, generators, pairs[:i] + ((image, p),) + pairs[i + 1:]) for p in perms]
                levels += [(point, generators, pairs[:i] + ((p[point], p),) + pairs[i + 1:]) for p in perms]
            levels.append((point, generators, pairs[::-1]))
            levels.append((point, generators, pairs + pairs))
            for level in levels:
                yield value[:k] + (level,) + value[k + 1:]

    def test_each_kind(self):
        full = chain(symmetric(4))
        small = chain(SQUARE)
        self.assertEqual(chain_gap(SQUARE, None), ("shape", 0))
        self.assertEqual(chain_gap(SQUARE, ()), ("missing", 0))
        self.assertEqual(chain_gap((4, (one(4), ring(4))), ()), ("missing", 1))
        self.assertEqual(chain_gap(SQUARE, full)[:2], ("generator", 0))
        self.assertEqual(chain_gap(symmetric(4), small)[0], "missing")
        turns = (ring(4),)
        rows = tuple((x, power) for x, power in enumerate(members((4, turns))))
        self.assertIsNone(chain_gap((4, turns), ((0, turns, rows),)))
        self.assertEqual(chain_gap((4, turns), ((0, turns, rows[:3]),)), ("orbit", 0, 2, 0))
        self.assertEqual(chain_gap((4, turns), ((0, turns, rows[:1]),)), ("orbit", 0, 0, 0))
        swap = cyc(4, (1, 3))
        bent = rows[:2] + ((2, times(rows[2][1], swap)),) + rows[3:]
        self.assertEqual(chain_gap((4, turns), ((0, turns, bent),)), ("transversal", 0, 2))
        self.assertEqual(chain_gap(SQUARE, ((0, SQUARE[1], rows),)), ("schreier", 0, 0, 1))
        late = ((0, SQUARE[1], rows), (1, (swap,), ((1, one(4)), (3, swap))))
        self.assertIsNone(chain_gap(SQUARE, late))
        other = ((1, one(4)), (3, cyc(4, (1, 3, 2))))
        self.assertEqual(chain_gap(SQUARE, (late[0], (1, (swap,), other))), ("transversal", 1, 3))
        self.assertEqual(chain_gap(SQUARE, (late[0], (1, (swap, cyc(4, (1, 2))), other))), ("generator", 1, 1))

    def test_order_of_kinds(self):
        rows = tuple((x, p) for x, p in enumerate(members((4, (ring(4),)))))
        wrong = cyc(4, (0, 1))
        level = (0, (wrong, ring(4)), rows)
        # Level 0 has a generator that the group has not, and level 1 is not well shaped.
        self.assertEqual(chain_gap(SQUARE, (level, (0, (), ()))), ("shape", 1))
        self.assertEqual(chain_gap(SQUARE, (level,)), ("generator", 0, 0))
        self.assertEqual(chain_gap((4, (ring(4), wrong)), ((0, (ring(4),), rows[:2]),)), ("missing", 1))
        self.assertEqual(chain_gap((4, (ring(4),)), ((0, (wrong, ring(4)), rows[:2]),)), ("generator", 0, 0))
        bent = ((0, one(4)), (1, cyc(4, (0, 1))))
        self.assertEqual(chain_gap((4, (ring(4),)), ((0, (ring(4),), bent),)), ("orbit", 0, 1, 0))

    def test_shapes(self):
        good = chain(SQUARE)
        point, generators, pairs = good[1]
        for level in (None, True, 0, "abc", [], {}, (), (point, generators), (point, generators, pairs, ()),
                      [point, generators, pairs], (True, generators, pairs), (0, generators, pairs), (4, generators, pairs),
                      (None, generators, pairs), (point, list(generators), pairs), (point, generators, list(pairs)),
                      (point, (None,), pairs), (point, ((0, 1),), pairs), (point, ([0, 1, 2, 3],), pairs),
                      (point, (ring(4),), pairs), (point, generators, ()), (point, generators, (None,)),
                      (point, generators, ((1,),)), (point, generators, ([1, one(4)],)), (point, generators, ((1, None),)),
                      (point, generators, ((True, one(4)),)), (point, generators, ((1, one(4)), (1, one(4)))),
                      (point, generators, ((1, one(4)), (3, one(4)))), (point, generators, ((3, pairs[1][1]),)),
                      (point, generators, pairs[::-1]), (point, generators, ((1, (0, True, 2, 3)),)), (point, None, pairs),
                      (point, generators, ((1, one(4)), ([3], one(4)))), (point, generators, ((1, one(4)), (None, {})))):
            self.assertEqual(chain_gap(SQUARE, (good[0], level)), ("shape", 1), level)
            self.assertEqual(brute_gap(SQUARE, (good[0], level)), ("shape", 1), level)
            self.assertIs(shows_chain(SQUARE, (good[0], level)), False)
        for value in ODD_VALUES + (list(good), dict(enumerate(good))):
            self.assertEqual(chain_gap(SQUARE, value), ("missing" if value == () else "shape", 0), value)
        self.assertEqual(chain_gap(SQUARE, good + (good[1],)), ("shape", 2))

    def test_levels_of_one_image(self):
        still = (2, SQUARE[1], ((2, one(4)),))
        self.assertEqual(chain_gap(SQUARE, (still, *chain(SQUARE))), ("shape", 1))
        self.assertEqual(chain_gap(SQUARE, (still,)), ("orbit", 0, 2, 0))
        parts = (4, ((1, 0, 2, 3),))
        level = (0, parts[1], ((0, one(4)), (1, parts[1][0])))
        self.assertIs(shows_chain(parts, ((2, parts[1], ((2, parts[1][0]),)), level, (3, (), ((3, one(4)),)))), True)
        self.assertIs(shows_chain(parts, ((2, parts[1], ((2, one(4)),)), level)), True)
        self.assertEqual(chain_gap(parts, ((2, parts[1], ((2, one(4)),)), (0, (), ((0, one(4)),)))), ("schreier", 0, 2, 0))

    def test_own_point_need_not_have_the_identity(self):
        turn, swap = SQUARE[1]
        first = ((0, swap),) + tuple((x, p) for x, p in enumerate(members((4, (turn,)))))[1:]
        self.assertIs(shows_chain(SQUARE, ((0, (turn, swap), first), (3, (swap,), ((1, swap), (3, one(4)))))), True)

    def test_many_generators(self):
        everything = tuple(members(symmetric(4)))
        fixing = tuple(p for p in everything if p[3] == 3)
        last = tuple(p for p in fixing if p[0] == 0)
        value = ((3, everything, tuple((x, min(p for p in everything if p[3] == x)) for x in range(4))),
                 (0, fixing, tuple((x, min(p for p in fixing if p[0] == x)) for x in range(3))),
                 (2, last, ((1, last[1]), (2, last[0]))))
        self.assertIs(shows_chain(symmetric(4), value), True)


class TestSwap(unittest.TestCase):
    def test_every_level(self):
        for group in SMALL:
            if group[0] > 5:
                continue
            for prefix in ((), tuple(range(group[0] - 1, -1, -1)), (0,)):
                value = chain(group, prefix=prefix)
                for level in range(len(value) - 1):
                    self.check(group, value, level)

    def check(self, group, value, level):
        told = base_swap(group, value, level)
        points = [told_level[0] for told_level in value]
        points[level:level + 2] = points[level:level + 2][::-1]
        self.assertEqual([told_level[0] for told_level in told], points)
        self.assertTrue(is_chain(group, told))
        old, new = [len(told_level[2]) for told_level in value], [len(told_level[2]) for told_level in told]
        self.assertEqual(old[level] * old[level + 1], new[level] * new[level + 1])
        self.assertEqual(old[:level] + old[level + 2:], new[:level] + new[level + 2:])

    def test_great_groups(self):
        for group in (MATHIEU_12, symmetric(12)):
            value = chain(group)
            told = base_swap(group, value, 2)
            self.assertIs(shows_chain(group, told), True)
            self.assertEqual([level[0] for level in told][:5], [0, 1, 3, 2, 4])

    def test_wrong_values(self):
        value = chain(SQUARE)
        for level in (-1, 1, 2, None, True, False, "0", (0,), [0], {}, 10 ** 30):
            expect(self, BadNumber, {}, base_swap, SQUARE, value, level)
        expect(self, BadNumber, {}, base_swap, (2, ()), (), 0)
        expect(self, BadNumber, {}, base_swap, (2, ((1, 0),)), chain((2, ((1, 0),))), 0)
        for wrong in ODD_VALUES + ((), value[:1], value[1:], list(value), chain(symmetric(4))):
            expect(self, NotChain, {}, base_swap, SQUARE, wrong, 0)
            expect(self, NotChain, {}, base_swap, SQUARE, wrong, None)

    def test_the_group_comes_first(self):
        for value in ODD_VALUES:
            for function in (base_points, orbit_sizes, chain):
                expect(self, BadGroup, {"index": None}, function, value, prefix=None)
            expect(self, BadGroup, {"index": None}, order, value)
            expect(self, BadGroup, {"index": None}, shows_chain, value, ())
            expect(self, BadGroup, {"index": None}, chain_gap, value, None)
            expect(self, BadGroup, {"index": None}, base_swap, value, None, None)
        expect(self, BadGroup, {"index": 0}, order, (3, ((0, 1),)))


if __name__ == "__main__":
    unittest.main()
