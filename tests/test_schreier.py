import itertools
import math
import unittest

from brute import (
    ODD_VALUES, SMALL, WIDER, closure, cyc, expect, members, one, ring, symmetric,
)
from known import (
    KNOWN, LARGER, NO_PRESENTATIONS, NO_WORDS, abelian, back, dihedral, lead, reduced_word, some_word, turned_relators,
)
from stronggens.cosets import coset_table
from stronggens.errors import BadGroup, BadNumber, BadPresentation, BadTable, BadWord, BadWords, TooMany
from stronggens.schreier import (
    free_generators, hall_numbers, low_index, presentation_of, presents, rewritten, row_words, subgroup_presentation,
)
from stronggens.tables import table_flaw, table_map
from test_tables import NO_TABLES, TURNS

FIVE = symmetric(5)
THIRTY = (8, (cyc(8, (0, 1, 2), (3, 4, 5, 6, 7)), cyc(8, (1, 2), (4, 7), (5, 6))))


def few_elements():
    """Groups of at most 60 elements, with the identity and equal permutations among the generators of some."""
    groups = [group for group in SMALL + WIDER if len(members(group)) <= 60]
    groups += [group for _, group, _ in KNOWN] + [THIRTY, (5, (cyc(5, (0, 1, 2)), cyc(5, (2, 3, 4))))]
    for seed, (degree, generators) in enumerate(list(groups)):
        rows = closure(degree, generators)
        some = [rows[(seed * 7 + k * k * 5) % len(rows)] for k in range(12 - len(generators))]
        groups.append((degree, generators[:1] + tuple(some) + generators[1:]))
        groups.append((degree, (one(degree),) + generators[::-1] + generators[:1] + tuple(some[:2])))
    return groups


class TestPresentations(unittest.TestCase):
    def test_known_groups(self):
        for group in few_elements():
            told = presentation_of(group)
            size = len(members(group))
            self.assertEqual(told[0], len(group[1]))
            self.assertTrue(len(told[1]) <= 60 and all(len(relator) <= 60 for relator in told[1]))
            self.assertEqual(len(coset_table(told, (), "rows")), size, group)
            self.assertEqual(len(coset_table(told, (), "scans")), size, group)
            self.assertIs(presents(group, told), True)

    def test_all_pairs_of_generators(self):
        """Generators of all kinds for one group: of small and of great order, of which just some are needed."""
        five = members((5, (cyc(5, (0, 1, 2)), cyc(5, (2, 3, 4)))))
        cyclic = members((12, (cyc(12, (0, 1, 2), (3, 4, 5, 6), (7, 8, 9, 10, 11)),)))
        for rows in (five, cyclic, members(THIRTY), members(symmetric(4))):
            for seed in range(60):
                generators = tuple(rows[(seed * seed * 31 + 17 * k * k + 3 * seed * k) % len(rows)] for k in range(seed % 13))
                degree = len(rows[0])
                told = presentation_of((degree, generators))
                size = len(closure(degree, generators))
                self.assertEqual(len(coset_table(told, (), "rows")), size)
                self.assertEqual(len(coset_table(told, (), "scans")), size)

    def test_known_presentations(self):
        for presentation, group, _ in KNOWN:
            self.assertIs(presents(group, presentation), True)
            for seed in range(4):
                self.assertIs(presents(group, turned_relators(presentation, seed)), True)
            self.assertIs(presents((group[0], group[1] + (one(group[0]),)), presentation), False)
            self.assertIs(presents((group[0], group[1] + (one(group[0]),)), (presentation[0] + 1, presentation[1])), False)
            named = presentation[0] + 1
            if named <= 12:
                self.assertIs(presents((group[0], group[1] + (one(group[0]),)), (named, presentation[1] + ((named,),))), True)

    def test_bent_ones(self):
        three = (3, ((1, 2, 0), (1, 0, 2)))
        good = (2, ((1, 1, 1), (2, 2), (1, 2, 1, 2)))
        self.assertIs(presents(three, good), True)
        bent = (
            (2, good[1][:2]), (2, good[1][1:]), (2, good[1] + ((1,),)), (2, ((1, 1, 1), (2, 2), (1, 2, -1, -2))), (1, ((1, 1, 1),)),
            (3, good[1]), (3, good[1] + ((3,),)), (2, ((1,) * 6, (2, 2), (1, 2, 1, 2))), (2, ()), (2, ((1, 1, 1), (2, 2), (1, 2))),
            (2, list(good[1])), [2, good[1]], (2, good[1], ()), (2, good[1] + ((3,),)), (2, good[1] + ((0,),)), (2, good[1] + ([1, 1, 1],)),
            (True, ()), (2, good[1] + ((True,) * 3,)), (2, good[1] * 21),
        )
        for value in bent + ODD_VALUES + NO_PRESENTATIONS:
            self.assertIs(presents(three, value), False, value)
        self.assertIs(presents(three, (2, good[1] * 20)), True)
        self.assertIs(presents((3, ((1, 0, 2),)), (1, ((1,) * 4,))), False)
        self.assertIs(presents((3, ((0, 1, 2),)), (1, ((1, 1), (1, 1, 1)))), True)
        self.assertIs(presents((1, ()), (0, ((), ()))), True)
        # The relators hold, but more than 600 rows would be created.
        self.assertIs(presents((2, ((1, 0), (1, 0))), (2, ((1, 1), (2, 2)))), False)

    def test_errors(self):
        for function in (presentation_of, lambda group: presents(group, None)):
            for value, index in ((None, None), ((13, ()), None), ((3, [ring(3)]), None), ((3, (ring(3), 0)), 1), ((1, ((0, 1),)), 0)):
                with self.assertRaises(BadGroup) as caught:
                    function(value)
                self.assertEqual(caught.exception.index, index)
            for group in (FIVE, (9, WIDER[3][1] + (cyc(9, (0, 1)),)), symmetric(12)):
                with self.assertRaises(TooMany) as caught:
                    function(group)
                self.assertEqual(caught.exception.most, 60)


class TestFreeGenerators(unittest.TestCase):
    def tables(self):
        for presentation, _, _ in KNOWN[:20]:
            for seed in range(2):
                words = tuple(some_word(presentation[0], 2, seed + k) for k in range(seed))
                yield presentation[0], coset_table(presentation, words, "scans")
        yield 2, ((1, 1, 2, 2), (0, 0, 1, 1), (2, 2, 0, 0))
        yield 1, tuple(((row + 1) % 600, (row - 1) % 600) for row in range(600))

    def test_row_words(self):
        for many, table in self.tables():
            words = row_words(table)
            self.assertTrue(type(words) is tuple and len(words) == len(table))
            found = {0: ()}
            queue = [0]
            for row in queue:
                for letter in [letter for k in range(1, many + 1) for letter in (k, -k)]:
                    target = lead(table, row, (letter,))
                    if target not in found:
                        found[target] = found[row] + (letter,)
                        queue.append(target)
            self.assertEqual(words, tuple(found[row] for row in range(len(table))))
        self.assertEqual(row_words(((2, 1), (0, 2), (1, 0))), ((), (-1,), (1,)))
        self.assertEqual(len(row_words(tuple(((row + 1) % 600, (row - 1) % 600) for row in range(600)))[300]), 300)

    def test_number_and_order(self):
        for many, table in self.tables():
            words = row_words(table)
            expected = []
            for row in range(len(table)):
                for letter in range(1, many + 1):
                    word = reduced_word(words[row] + (letter,) + back(words[lead(table, row, (letter,))]))
                    if word:
                        expected.append(word)
            self.assertEqual(free_generators(table), expected)
            self.assertEqual(len(expected), len(table) * (many - 1) + 1)
            self.assertTrue(all(lead(table, 0, word) == 0 for word in expected))

    def test_rewritten_there_and_back(self):
        for many, table in self.tables():
            loops = free_generators(table)
            for k, word in enumerate(loops):
                if len(word) <= 60:
                    self.assertEqual(rewritten(table, word), (k + 1,))
                    self.assertEqual(rewritten(table, back(word)), (-k - 1,))
            for seed in range(30):
                word = some_word(many, seed * 2, seed)
                told = rewritten(table, word)
                if lead(table, 0, word) != 0:
                    self.assertIsNone(told)
                else:
                    self.assertEqual(told, reduced_word(told))
                    letters = [letter for sign in told for letter in (loops[sign - 1] if sign > 0 else back(loops[-sign - 1]))]
                    self.assertEqual(reduced_word(letters), reduced_word(word))
        self.assertEqual(rewritten(((1, 1), (0, 0)), (1, -1)), ())
        self.assertEqual(rewritten(((0, 0, 0, 0),), (1, 2, 2, -2)), (1, 2))
        self.assertEqual(rewritten(((),), ()), ())

    def test_errors(self):
        for value in NO_TABLES:
            expect(self, BadTable, {}, row_words, value)
            expect(self, BadTable, {}, free_generators, value)
            expect(self, BadTable, {}, rewritten, value, None)
        for value in (None, True, 1, "", [], {}, (1,) * 61):
            expect(self, BadWord, {"index": None}, rewritten, TURNS, value)
        for value in (0, 2, -2, True, None, "1", (1,), [1]):
            expect(self, BadWord, {"index": 1}, rewritten, TURNS, (1, value, None))
        expect(self, BadWord, {"index": 0}, rewritten, ((),), (1,))


class TestSubgroupPresentations(unittest.TestCase):
    def test_by_the_definition(self):
        cases = [(presentation, words) for presentation, _, _ in KNOWN[:16] for words in self.some_words(presentation[0])]
        small = 0
        for presentation, words in cases:
            table = coset_table(presentation, words, "scans")
            loops, least = free_generators(table), row_words(table)
            relators = []
            for row in range(len(table)):
                for relator in presentation[1]:
                    loop = least[row] + relator + back(least[row])
                    if len(loop) <= 60:
                        word = rewritten(table, loop)
                        if word and word not in relators:
                            relators.append(word)
            if len(loops) > 12:
                expect(self, TooMany, {"most": 12}, subgroup_presentation, presentation, words)
            elif len(relators) > 60:
                expect(self, TooMany, {"most": 60}, subgroup_presentation, presentation, words)
            else:
                small += 1
                self.assertEqual(subgroup_presentation(presentation, words), (len(loops), tuple(relators)))
        self.assertGreater(small, 20)

    def some_words(self, many):
        return [()] + [tuple(some_word(many, 1 + (seed + k) % 4, seed + k) for k in range(1 + seed % 2)) for seed in range(4)]

    def test_the_number_of_elements(self):
        for presentation, words, size in (
            (dihedral(12)[0], ((1,),), 12), (dihedral(12)[0], ((1, 1), (2,)), 12), (abelian(2, 3, 5)[0], ((1,), (2,), (3, 3)), 30),
            ((2, ((1, 1), (2, 2, 2), (1, 2) * 4)), ((2,), (1, 2, 1)), 12), ((1, ((1, 1, 1, 1),)), ((1, 1),), 2),
        ):
            told = subgroup_presentation(presentation, words)
            self.assertEqual(len(coset_table(told, (), "scans")), size)
        self.assertEqual(subgroup_presentation((2, ()), ((1,), (2,))), (2, ()))
        self.assertEqual(subgroup_presentation((2, ()), ((1, 1), (2,), (1, 2, -1))), (3, ()))
        self.assertEqual(subgroup_presentation((0, ((),)), ()), (0, ()))

    def test_too_many_generators(self):
        self.assertEqual(subgroup_presentation((1, ((1,) * 12,)), ((1,) * 12,)), (1, ((1,),)))
        expect(self, TooMany, {"most": 600}, subgroup_presentation, (2, ()), ((1,) * 11, (2,)))
        # A table of n rows for two generators has n + 1 free generators.
        pairs = [(2, ((1,) * n, (1, 2, -1, -2))) for n in (11, 12)]
        self.assertEqual(subgroup_presentation(pairs[0], ((2,),))[0], 12)
        expect(self, TooMany, {"most": 12}, subgroup_presentation, pairs[1], ((2,),))

    def test_too_many_relators(self):
        """Many relators, each of which is rewritten in another way from each of six rows."""
        relators = tuple((1,) * k + (2,) * (60 - k) for k in range(1, 60))
        told = (3, relators + ((3, 1),))
        self.assertEqual(subgroup_presentation(told, ((1,), (2,))), told)
        self.assertEqual(subgroup_presentation((2, relators), ((1,), (2,), (1, 2))), (2, relators))
        ring = ((1,) * 6, (1, 2, -1, -2))
        kinds = set()
        for many in range(6, 14):
            relators = ring + tuple((2,) * k + (1,) * 6 + (2,) * (k + 1) for k in range(many))
            table = coset_table((2, relators), ((2,), (1,) * 6), "scans")
            found = {rewritten(table, row + relator + back(row)) for row in row_words(table) for relator in relators} - {()}
            kinds.add((len(table), len(found) > 60))
            if len(found) > 60:
                expect(self, TooMany, {"most": 60}, subgroup_presentation, (2, relators), ((2,), (1,) * 6))
            else:
                self.assertEqual(len(subgroup_presentation((2, relators), ((2,), (1,) * 6))[1]), len(found))
        self.assertEqual(kinds, {(6, True), (6, False)})

    def test_errors(self):
        for value in NO_PRESENTATIONS:
            expect(self, BadPresentation, {"index": None}, subgroup_presentation, value, None)
        for value in NO_WORDS:
            expect(self, BadPresentation, {"index": 0}, subgroup_presentation, (2, (value,)), None)
            expect(self, BadWords, {"index": 1}, subgroup_presentation, (2, ()), ((), value))
        expect(self, BadWords, {"index": None}, subgroup_presentation, (2, ()), ((1,) * 36, (1,)))
        expect(self, TooMany, {"most": 600}, subgroup_presentation, (2, ()), ())


class TestLowIndex(unittest.TestCase):
    def by_tuples(self, presentation, most):
        """All transitive tuples of permutations in which the relators hold, as standard tables."""
        many, relators = presentation
        found = set()
        for size in range(1, most + 1):
            for perms in itertools.product(itertools.permutations(range(size)), repeat=many):
                table = tuple(tuple(x for p in perms for x in (p[row], p.index(row))) for row in range(size))
                if all(lead(table, row, relator) == row for relator in relators for row in range(size)):
                    order = [0]
                    for row in order:
                        order.extend(x for x in dict.fromkeys(table[row]) if x not in order)
                    if len(order) == size:
                        found.add(tuple(tuple(order.index(x) for x in table[row]) for row in order))
        return sorted(found, key=lambda table: (len(table), table))

    def test_against_all_tuples(self):
        cases = [(presentation, 4) for presentation, _, _ in KNOWN if presentation[0] < 3]
        cases += [(presentation, 3) for presentation, _, _ in KNOWN if presentation[0] == 3]
        cases += [((2, ()), 4), ((1, ()), 6), ((0, ()), 6), ((3, ()), 3), ((2, ((1, 1),)), 4), ((2, ((1, 2, -1, -2),)), 4),
                  ((2, ((1, 1, 2, 2, 2),)), 4), ((2, ((1, -1, 2, -2), (1,))), 4), ((2, ((1, 2, 1, -2), (1, 1, 1, 1))), 4),
                  ((4, ((1, 2, 3, 4), (1, 1), (2, 2))), 2)]
        for presentation, most in cases:
            for size in range(1, most + 1):
                self.assertEqual(low_index(presentation, size), self.by_tuples(presentation, size), (presentation, size))
            for seed in range(2):
                turned_one = turned_relators(presentation, seed)
                self.assertEqual(low_index(turned_one, most), low_index(presentation, most))

    def test_numbers_of_subgroups(self):
        for many in (1, 2):
            told = [len(table) for table in low_index((many, ()), 5)]
            self.assertEqual(tuple(told.count(size) for size in range(1, 6)), hall_numbers(many, 5))
        self.assertEqual([len(table) for table in low_index((2, ((1, 1), (2, 2, 2), (1, 2) * 5)), 6)], [1] + [5] * 5 + [6] * 6)
        self.assertEqual([len(table) for table in low_index((2, ((1, 1), (2, 2, 2))), 6)].count(6), 22)
        for presentation, _, _ in KNOWN + LARGER[:3]:
            for table in low_index(presentation, 6):
                self.assertIsNone(table_flaw(presentation, (), table))
                self.assertLessEqual(len(table), 6)

    def test_each_is_a_map_of_the_coset_table(self):
        for presentation, _, size in KNOWN:
            table = coset_table(presentation, (), "scans")
            for other in low_index(presentation, 6):
                self.assertIsNotNone(table_map(table, other))
                self.assertEqual(size % len(other), 0)

    def test_too_many(self):
        expect(self, TooMany, {"most": 2000}, low_index, (2, ()), 6)
        expect(self, TooMany, {"most": 2000}, low_index, (12, ()), 2)
        expect(self, TooMany, {"most": 2000}, low_index, (12, ()), 6)
        expect(self, TooMany, {"most": 2000}, low_index, (11, ()), 2)
        self.assertEqual(len(low_index((10, ()), 2)), 1024)
        # Two generators are tied by relators, which the ten others must not hide.
        for most in (2, 3, 6):
            expect(self, TooMany, {"most": 2000}, low_index, (12, ((1, 1, 1, 1), (2, 2), (1, 2, 1, 2))), most)
            expect(self, TooMany, {"most": 2000}, low_index, (12, ((12,) * 4, (11, 11), (12, 11, 12, 11))), most)
        self.assertEqual(low_index((12, ()), 1), [((0,) * 24,)])
        self.assertEqual(low_index((12, tuple((k,) for k in range(1, 13))), 6), [((0,) * 24,)])

    def test_errors(self):
        for value in NO_PRESENTATIONS:
            expect(self, BadPresentation, {"index": None}, low_index, value, None)
        for value in NO_WORDS:
            expect(self, BadPresentation, {"index": 1}, low_index, (2, ((), value)), None)
        for value in (None, True, 0, 7, -1, "2", (2,), [2], {}, 10 ** 30):
            expect(self, BadNumber, {}, low_index, (1, ()), value)
            expect(self, BadNumber, {}, low_index, (12, ()), value)


class TestHallNumbers(unittest.TestCase):
    def test_recursion(self):
        for many in range(1, 13):
            for most in (1, 2, 3, 7, 12, 40):
                told = hall_numbers(many, most)
                self.assertTrue(type(told) is tuple and len(told) == most)
                for n in range(1, most + 1):
                    rest = sum(told[k - 1] * math.factorial(n - k) ** (many - 1) for k in range(1, n))
                    self.assertEqual(told[n - 1], n * math.factorial(n) ** (many - 1) - rest)
        self.assertEqual(hall_numbers(1, 40), (1,) * 40)
        self.assertEqual(hall_numbers(2, 6), (1, 3, 13, 71, 461, 3447))
        self.assertEqual(hall_numbers(12, 2), (1, 4095))

    def test_errors(self):
        for value in (None, True, 0, 13, -1, "2", (2,), [2], {}, 10 ** 30):
            expect(self, BadNumber, {}, hall_numbers, value, 3)
            expect(self, BadNumber, {}, hall_numbers, value, None)
            if value != 13:
                expect(self, BadNumber, {}, hall_numbers, 2, value)
        expect(self, BadNumber, {}, hall_numbers, 2, 41)


if __name__ == "__main__":
    unittest.main()
