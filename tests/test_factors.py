import itertools
import math
import unittest

from brute import MATHIEU_11, WIDER, closure, cyc, expect, members, one, ring, symmetric, times
from known import NO_PRESENTATIONS
from small import GREAT, TOO_GREAT, UP_TO_60, comm, order_of
from stronggens.errors import BadGroup, BadNumber, BadPresentation, NotAbelian, TooMany
from stronggens.factors import abelian_map, basis_of, cyclic_images, factors_of, presentation_factors, quotient_factors
from stronggens.homs import extends, image_group
from test_primes import WRONG_GROUPS

SHAPES = ((), (2,), (3,), (4,), (2, 2), (6,), (2, 4), (4, 4), (2, 2, 2), (3, 3), (3, 6), (3, 3, 3), (2, 3, 4), (5, 6), (12,), (2, 10), (4, 6), (2, 2, 3, 3),
          (3, 4, 5), (2, 2, 2, 2, 2, 2), (4, 4, 4), (3, 3, 3, 3), (2, 4, 6), (8, 4), (8,), (9, 3), (9,), (7, 5), (11,), (10,), (2, 2, 4, 4), (6, 6))


def turns(shape, start=0):
    """The group of turns of so many points each, side by side."""
    degree, rows = start, []
    for size in shape:
        rows.append(tuple(range(degree, degree + size)))
        degree += size
    degree = max(degree, 1)
    return (degree, tuple(cyc(degree, row) for row in rows))


def mixed(group):
    """The same group by other generators: products of some, and one of them twice."""
    degree, generators = group
    found = []
    for place, p in enumerate(generators):
        for q in generators[place + 1:]:
            p = times(p, q)
        found.append(p)
    return (degree, tuple(found + found[:1] + [one(degree)]))


ABELIAN = tuple(group for shape in SHAPES for group in (turns(shape), mixed(turns(shape)), turns(shape, 1)) if group[0] <= 12)
OTHERS = (symmetric(3), symmetric(4), symmetric(5), (4, ((1, 2, 3, 0), (0, 3, 2, 1))), MATHIEU_11, TOO_GREAT[1])


def counts(orders):
    found = {}
    for n in orders:
        found[n] = found.get(n, 0) + 1
    return found


def orders_of(factors):
    """How many elements of each order the product of cyclic groups has."""
    return counts(math.lcm(1, *[n // math.gcd(n, k) for n, k in zip(factors, row)]) for row in itertools.product(*[range(n) for n in factors]))


class TestFactors(unittest.TestCase):
    def check_factors(self, factors):
        self.assertIs(type(factors), tuple)
        self.assertTrue(all(n > 1 for n in factors) and all(b % a == 0 for a, b in zip(factors, factors[1:])))

    def test_by_the_orders_of_all_elements(self):
        for group in ABELIAN:
            factors = factors_of(group)
            self.check_factors(factors)
            self.assertEqual(orders_of(factors), counts(order_of(p) for p in members(group)))
        self.assertEqual(factors_of((3, ())), ())
        self.assertEqual(factors_of(turns((4, 6))), (2, 12))
        self.assertEqual(factors_of(turns((3, 4, 5))), (60,))

    def test_bases(self):
        for group in ABELIAN:
            factors, basis = factors_of(group), basis_of(group)
            self.assertEqual(tuple(order_of(p) for p in basis), factors)
            made = []
            for row in itertools.product(*[range(n) for n in factors]):
                p = one(group[0])
                for exponent, q in zip(row, basis):
                    for _ in range(exponent):
                        p = times(p, q)
                made.append(p)
            self.assertEqual(sorted(made), members(group))

    def test_maps(self):
        kinds = {True: 0, False: 0}
        groups = ABELIAN[::2]
        for group, other in itertools.product(groups, repeat=2):
            if math.prod(factors_of(group)) == math.prod(factors_of(other)):
                images = abelian_map(group, other)
                alike = orders_of(factors_of(group)) == orders_of(factors_of(other))
                self.assertEqual(images is not None, alike)
                kinds[alike] += group[0] != other[0]
                if alike:
                    self.assertEqual(len(images), len(group[1]))
                    self.assertTrue(extends(group, other, images))
                    self.assertEqual(members(image_group(group, other, images)), members(other))
            else:
                self.assertIsNone(abelian_map(group, other))
        self.assertGreater(min(kinds.values()), 10)
        self.assertEqual(abelian_map((3, ()), (5, (one(5),))), ())
        self.assertEqual(abelian_map((5, (one(5),)), (3, ())), (one(3),))

    def test_errors(self):
        good = turns((2, 2))
        for function in (factors_of, basis_of):
            for value, index in WRONG_GROUPS:
                expect(self, BadGroup, {"index": index}, function, value)
            for group in OTHERS:
                expect(self, NotAbelian, {}, function, group)
        for value, index in WRONG_GROUPS:
            expect(self, BadGroup, {"index": index}, abelian_map, value, OTHERS[0])
            expect(self, BadGroup, {"index": index}, abelian_map, good, value)
            # All errors of the group come ahead of those of the other one.
            expect(self, NotAbelian, {}, abelian_map, OTHERS[0], value)
        for group in OTHERS:
            expect(self, NotAbelian, {}, abelian_map, group, good)
            expect(self, NotAbelian, {}, abelian_map, good, group)
        # Two generators that commute, and a third one that does not.
        expect(self, NotAbelian, {}, factors_of, (5, (cyc(5, (0, 1, 2)), cyc(5, (3, 4)), cyc(5, (0, 3)))))


class TestQuotients(unittest.TestCase):
    def test_by_commutators(self):
        for group in UP_TO_60 + GREAT[:2] + WIDER:
            rows = members(group)
            below = closure(group[0], tuple({comm(p, q) for p in rows for q in rows}) if len(rows) < 200 else
                            tuple({comm(p, q) for p in rows[::5] for q in rows}))
            known = set(below)
            orders = []
            for p in rows:
                many, q = 1, p
                while q not in known:
                    many, q = many + 1, times(q, p)
                orders.append(many)
            told = {n: many // len(below) for n, many in counts(orders).items()}
            self.assertEqual(orders_of(quotient_factors(group)), told)

    def test_known(self):
        for group in ABELIAN:
            self.assertEqual(quotient_factors(group), factors_of(group))
        self.assertEqual([quotient_factors(symmetric(n)) for n in (1, 2, 3, 6)], [(), (2,), (2,), (2,)])
        self.assertEqual(quotient_factors((4, ((1, 2, 3, 0), (0, 3, 2, 1)))), (2, 2))
        for value, index in WRONG_GROUPS:
            expect(self, BadGroup, {"index": index}, quotient_factors, value)
        for group in TOO_GREAT + (MATHIEU_11,):
            expect(self, TooMany, {"most": 2000}, quotient_factors, group)


class TestPresentations(unittest.TestCase):
    def some(self):
        for seed in range(60):
            many = seed % 4
            yield (many, tuple(tuple((1 if (seed * k + j * j) % 3 else -1) * ((seed // 4 + k * 3 + j * (k + 1)) % many + 1) for j in range((seed + k * 5) % 9))
                               for k in range(seed % 5)) if many else ((),) * (seed % 3))
        yield (2, ((1,) * 60, (2,) * 45, (1, 2) * 30))
        yield (3, ((1, 1, 2, 2, 3, 3), (1, -2, 1, -2), (3, 3, 3, 3)))

    def test_by_all_rows_of_residues(self):
        for presentation in self.some():
            many, relators = presentation
            factors, rank = presentation_factors(presentation)
            self.assertTrue(all(n > 1 for n in factors) and all(b % a == 0 for a, b in zip(factors, factors[1:])))
            for n in (1, 2, 3, 4, 5, 6, 8, 9, 12):
                sums = sum(all(sum((1 if k > 0 else -1) * row[abs(k) - 1] for k in word) % n == 0 for word in relators)
                           for row in itertools.product(range(n), repeat=many))
                self.assertEqual(cyclic_images(presentation, n), sums)
                self.assertEqual(n ** rank * math.prod(math.gcd(n, f) for f in factors), sums)

    def test_known(self):
        self.assertEqual(presentation_factors((0, ())), ((), 0))
        self.assertEqual(presentation_factors((0, ((), ()))), ((), 0))
        self.assertEqual(presentation_factors((12, ())), ((), 12))
        self.assertEqual(presentation_factors((2, ((1, 2, -1, -2),))), ((), 2))
        self.assertEqual(presentation_factors((2, ((1, 1, 1), (2, 2), (1, 2, 1, 2)))), ((2,), 0))
        self.assertEqual(presentation_factors((2, ((1,) * 4, (2,) * 6))), ((2, 12), 0))
        self.assertEqual(presentation_factors((3, ((1,) * 60, (2,) * 42, (3,) * 35))), ((210, 420), 0))
        relators = tuple(tuple((k * j * j + k + j) % 12 + 1 for j in range(60)) for k in range(60))
        factors, rank = presentation_factors((12, relators))
        self.assertTrue(all(b % a == 0 for a, b in zip(factors, factors[1:])) and len(factors) + rank <= 12)

    def test_great_numbers(self):
        for many in (999999937, 10 ** 9, 999999999, 2 ** 29, 510510 * 1958, 1):
            self.assertEqual(cyclic_images((1, ()), many), many)
            self.assertEqual(cyclic_images((12, ()), many), many ** 12)
            self.assertEqual(cyclic_images((1, ((1,) * 60,)), many), math.gcd(60, many))
            self.assertEqual(cyclic_images((2, ((1,) * 32, (2,) * 50)), many), math.gcd(32, many) * math.gcd(50, many))
            self.assertEqual(cyclic_images((0, ()), many), 1)
            self.assertEqual(cyclic_images((2, ((1, 1, -2, -2, -2),)), many), many)

    def test_errors(self):
        wrong = [(value, None) for value in NO_PRESENTATIONS] + [((1, ((1,), (2,))), 1), ((2, ([1],)), 0), ((2, ((1,) * 61,)), 0), ((0, ((1,),)), 0)]
        for value, index in wrong:
            expect(self, BadPresentation, {"index": index}, presentation_factors, value)
            expect(self, BadPresentation, {"index": index}, cyclic_images, value, None)
        for value in (0, -1, 10 ** 9 + 1, 10 ** 40, None, True, False, "1", (1,), [], {}):
            expect(self, BadNumber, {}, cyclic_images, (1, ()), value)
        self.assertEqual(cyclic_images((1, ((1, 1),)), 1), 1)

    def test_ring(self):
        self.assertEqual(factors_of((12, (ring(12),))), (12,))


if __name__ == "__main__":
    unittest.main()
