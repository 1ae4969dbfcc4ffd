import unittest

from brute import (
    MATHIEU_11, MATHIEU_12, ODD_VALUES, SMALL, SQUARE, WIDER, closure, cyc, expect, members, one, ring, run_steps, shuffled,
    symmetric,
)
from stronggens.chains import order
from stronggens.errors import BadDegree, BadGroup
from stronggens.generators import edges, extra_generator, has_few, inclusion, irredundant, same, with_few

REPEATED = (
    (4, (one(4), ring(4), ring(4), one(4), cyc(4, (0, 2), (1, 3)), cyc(4, (1, 3)))), (3, (one(3),) * 12),
    (5, (cyc(5, (0, 1)), one(5), cyc(5, (0, 1)), cyc(5, (1, 2)), cyc(5, (0, 2)), cyc(5, (3, 4)), cyc(5, (0, 1), (3, 4)))),
    (4, (ring(4), cyc(4, (0, 1)), cyc(4, (1, 2)), cyc(4, (2, 3)))), (4, (cyc(4, (0, 1)), cyc(4, (0, 1), (2, 3)))),
    (6, tuple(cyc(6, (k, k + 1)) for k in range(5)) + (cyc(6, (0, 5)),)), (1, ((0,), (0,))),
)
GROUPS = SMALL + REPEATED


def is_forest(degree, pairs):
    """Whether taking the pairs one by one as connections never joins what is joined already."""
    names = list(range(degree))
    for a, b in pairs:
        if names[a] == names[b]:
            return False
        names = [names[a] if name == names[b] else name for name in names]
    return True


class TestTwoGroups(unittest.TestCase):
    def test_against_all_members(self):
        for group in GROUPS:
            for other in GROUPS:
                if group[0] != other[0]:
                    continue
                rows = set(members(group))
                missing = [i for i, p in enumerate(other[1]) if p not in rows]
                self.assertEqual(extra_generator(group, other), missing[0] if missing else None)
                self.assertIs(same(group, other), rows == set(members(other)))
                programs = inclusion(group, other)
                if missing:
                    self.assertIsNone(programs)
                else:
                    self.assertIs(type(programs), tuple)
                    self.assertEqual(tuple(run_steps(*group, program) for program in programs), other[1])

    def test_great_groups(self):
        twelve = symmetric(12)
        self.assertEqual(extra_generator(MATHIEU_12, twelve), 0)
        self.assertIsNone(extra_generator(twelve, MATHIEU_12))
        programs = inclusion(twelve, MATHIEU_12)
        self.assertEqual(tuple(run_steps(*twelve, program) for program in programs), MATHIEU_12[1])
        self.assertIs(same(twelve, (12, tuple(cyc(12, (0, k)) for k in range(1, 12)))), True)
        self.assertIs(same(twelve, MATHIEU_12), False)
        self.assertIs(same(MATHIEU_12, twelve), False)
        alternating = (12, tuple(cyc(12, (0, 1, k)) for k in range(2, 12)))
        self.assertEqual(extra_generator(alternating, (12, (*MATHIEU_12[1], cyc(12, (4, 5))))), 3)

    def test_edges_of_the_promise(self):
        self.assertEqual([extra_generator((3, ()), (3, ())), inclusion((3, ()), (3, ())), same((3, ()), (3, (one(3),)))],
                         [None, (), True])
        self.assertEqual(inclusion((3, ()), (3, (one(3), one(3)))), ((), ()))

    def test_errors(self):
        for function in (extra_generator, inclusion, same):
            expect(self, BadDegree, {}, function, SQUARE, (5, ()))
            expect(self, BadDegree, {}, function, (3, ()), SQUARE)
            for value in ODD_VALUES:
                expect(self, BadGroup, {"index": None}, function, value, SQUARE)
                expect(self, BadGroup, {"index": None}, function, SQUARE, value)
                expect(self, BadGroup, {"index": None}, function, value, (5, (None,)))
            expect(self, BadGroup, {"index": 0}, function, SQUARE, (5, ((0, 1),)))
            expect(self, BadGroup, {"index": 1}, function, (5, (one(5), (0, 1))), SQUARE)


class TestIrredundant(unittest.TestCase):
    def test_by_the_rule(self):
        for group in GROUPS:
            degree, generators = group
            kept = list(range(len(generators)))
            for index in reversed(range(len(generators))):
                others = [k for k in kept if k != index]
                if closure(degree, [generators[k] for k in others]) == members(group):
                    kept = others
            self.assertEqual(irredundant(group), tuple(kept))

    def test_values(self):
        self.assertEqual([irredundant((3, (one(3),) * 12)), irredundant((1, ())), irredundant(SQUARE)], [(), (), (0, 1)])
        self.assertEqual(irredundant((4, (ring(4), ring(4)))), (0,))
        self.assertEqual(irredundant((12, (*symmetric(12)[1], *MATHIEU_12[1]))), (0, 1))
        self.assertEqual(irredundant((12, tuple(cyc(12, (k, k + 1)) for k in range(11)))), tuple(range(11)))
        self.assertEqual(irredundant((4, (cyc(4, (0, 2), (1, 3)), ring(4)))), (1,))


class TestFew(unittest.TestCase):
    def test_edges(self):
        group = (5, (cyc(5, (0, 3, 1)), one(5), cyc(5, (2, 4)), cyc(5, (3, 4)), cyc(5, (0, 1, 3))))
        self.assertEqual(edges(group), ((0, 3), None, (2, 4), (3, 4), (0, 1)))
        self.assertEqual([edges((3, ())), edges((1, ((0,),)))], [(), (None,)])
        for told in GROUPS:
            expected = tuple(next(((x, y) for x, y in enumerate(p) if x != y), None) for p in told[1])
            self.assertEqual(edges(told), expected)

    def test_has_few(self):
        for group in GROUPS + WIDER:
            pairs = edges(group)
            self.assertIs(has_few(group), None not in pairs and is_forest(group[0], pairs))
        for group, good in (((3, ()), True), ((3, (one(3),)), False), ((4, (ring(4), cyc(4, (0, 1)))), False),
                            ((4, (ring(4), cyc(4, (0, 2)))), True), ((3, (cyc(3, (0, 1)), cyc(3, (1, 2)))), True),
                            ((3, (cyc(3, (0, 1)), cyc(3, (1, 2)), cyc(3, (0, 2)))), False), ((3, (ring(3), ring(3))), False),
                            ((4, (cyc(4, (0, 1)), cyc(4, (2, 3)), cyc(4, (1, 2)), cyc(4, (0, 3)))), False),
                            ((12, tuple(cyc(12, (k, 11)) for k in range(11))), True)):
            self.assertIs(has_few(group), good, group)

    def test_with_few(self):
        for group in GROUPS + WIDER:
            self.check(group)
            self.assertEqual(members(with_few(group)), members(group))

    def check(self, group):
        degree, generators = told = with_few(group)
        self.assertEqual(degree, group[0])
        self.assertIs(type(generators), tuple)
        self.assertLessEqual(len(generators), max(degree - 1, 0))
        self.assertIs(has_few(told), True)
        self.assertIs(same(group, told), True)

    def test_great_groups(self):
        for group in (MATHIEU_11, MATHIEU_12, symmetric(12), (12, tuple(cyc(12, (0, 1, k)) for k in range(2, 12)))):
            self.check(group)
        for seed in range(60):
            degree = seed % 8 + 5
            base = [shuffled(degree, 13 * seed + k) for k in range(seed % 12 + 1)]
            self.check((degree, tuple(base)))
            # Permutations of some points only, so that the orders are of all kinds.
            small = [tuple(shuffled(4, seed + k)) + tuple(range(4, degree)) for k in range(3)]
            self.check((degree, (*small, tuple(range(4)) + tuple(4 + x for x in shuffled(degree - 4, seed)))))
        self.assertEqual(order(with_few((12, tuple(shuffled(12, seed) for seed in range(12))))) in (479001600, 239500800), True)

    def test_errors(self):
        for value in ODD_VALUES:
            for function in (irredundant, edges, has_few, with_few):
                expect(self, BadGroup, {"index": None}, function, value)
        for function in (irredundant, edges, has_few, with_few):
            expect(self, BadGroup, {"index": 2}, function, (2, ((1, 0), (0, 1), (1, True))))


if __name__ == "__main__":
    unittest.main()
