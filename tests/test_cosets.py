import unittest

from brute import ODD_VALUES, expect
from known import (
    KNOWN, LARGER, NO_PRESENTATIONS, NO_WORDS, abelian, dihedral, lead, plain_cosets, some_word, turned_relators,
)
from stronggens.cosets import coset_table, definitions
from stronggens.errors import BadMethod, BadPresentation, BadWords, TooMany

METHODS = ("rows", "scans")


def random_case(seed):
    """A presentation and words, of which some lead to finite tables."""
    many = (seed + 1) % 4
    relators = [some_word(many, 1 + seed * k % 6, seed + k) * (1 + seed * k % 3) for k in range(1 + seed % 5)]
    relators += [(k,) * (1 + (seed + k) % 4) for k in range(1, many + 1) if (seed + k) % 7]
    words = [some_word(many, (seed + k) % 5, seed - k) for k in range(seed % 3)]
    return (many, tuple(relators)), tuple(words)


class TestKnownGroups(unittest.TestCase):
    def check(self, presentation, words, size):
        rows, scans = (coset_table(presentation, words, method) for method in METHODS)
        self.assertEqual(rows, scans)
        self.assertEqual(len(scans), size)
        for row in range(size):
            self.assertEqual(len(scans[row]), 2 * presentation[0])
            self.assertTrue(all(lead(scans, row, relator) == row for relator in presentation[1]))
        self.assertTrue(all(lead(scans, 0, word) == 0 for word in words))

    def test_as_many_rows_as_elements(self):
        for presentation, _, size in KNOWN:
            self.check(presentation, (), size)
            for seed in range(4):
                self.check(turned_relators(presentation, seed), (), size)

    def test_as_many_rows_as_cosets(self):
        self.check(dihedral(12)[0], ((2,),), 12)
        self.check(dihedral(12)[0], ((1,),), 2)
        self.check(dihedral(12)[0], ((1, 1, 1), (2, 1)), 3)
        self.check(((2, ((1, 1), (2, 2, 2), (1, 2) * 5))), ((1, 2), (-2, 1, 2)), 1)
        self.check(((2, ((1, 1), (2, 2, 2), (1, 2) * 5))), ((1, 2),), 12)
        self.check(LARGER[0][0], ((2,),), 56)
        self.check(LARGER[0][0], ((1, 2),), 24)

    def test_larger_groups(self):
        for presentation, _, size in LARGER:
            table = coset_table(presentation, (), "scans")
            self.assertEqual(len(table), size)
            self.assertEqual(len(definitions(presentation, (), "scans")) + 1 >= size, True)
            if presentation[0] > 2:
                self.assertEqual(coset_table(presentation, (), "rows"), table)
        for orders in ((24, 25), (8, 8, 9), (2, 3, 4, 5, 5)):
            presentation, _, size = abelian(*orders)
            self.assertEqual(len(coset_table(presentation, (), "scans")), size)

    def test_infinite_groups_with_finitely_many_cosets(self):
        self.check((2, ()), ((1,), (2,)), 1)
        self.check((2, ()), ((1, 1), (2,), (1, 2, 1)), 2)
        self.check((2, ((1, 2, -1, -2),)), ((1,) * 4, (2,) * 5), 20)
        self.check((1, ()), ((1,) * 12, (-1,) * 18), 6)


class TestDefinitions(unittest.TestCase):
    def check(self, presentation, words):
        for method in METHODS:
            expected = plain_cosets(presentation, words, method)
            if expected is None:
                expect(self, TooMany, {"most": 600}, coset_table, presentation, words, method)
                expect(self, TooMany, {"most": 600}, definitions, presentation, words, method)
            else:
                self.assertEqual(coset_table(presentation, words, method), expected[0], (presentation, words, method))
                self.assertEqual(definitions(presentation, words, method), expected[1], (presentation, words, method))

    def test_known_groups(self):
        for presentation, _, size in KNOWN:
            if size < 40:
                self.check(presentation, ())
                for seed in range(3):
                    word = some_word(presentation[0], 3, seed)
                    self.check(turned_relators(presentation, seed), (word,) if word else ())

    def test_some_cases(self):
        kinds = {True: 0, False: 0}
        for seed in range(400):
            presentation, words = random_case(seed)
            try:
                made = definitions(presentation, words, METHODS[seed % 2])
            except TooMany:
                kinds[False] += 1
                if kinds[False] > 6:
                    continue
            else:
                kinds[True] += len(made) > 3
            self.check(presentation, words)
        self.assertTrue(kinds[True] > 40 and kinds[False] > 6, kinds)

    def test_rows_that_are_merged(self):
        """Both have merged rows, and all rows count, those that were merged as well."""
        told = (2, ((1, 1, 1), (2, 2, 2), (1, 2, 1, 2)))
        for method in METHODS:
            made = definitions(told, (), method)
            self.assertEqual(made, plain_cosets(told, (), method)[1])
        self.assertGreater(len(definitions(abelian(3, 3, 3)[0], (), "rows")), 26)
        # An entry from a row to itself goes to a row that has just the entry at the inverse letter.
        self.check((2, ((-2,), (1, 2, 1, -2, -1, 2))), ())
        self.check((2, ((-1, 1, -2),)), ((-2, -1, 2),))
        self.check((2, ((-2, -1, 2), (1, -2, -1, 2, -2))), ((1, -1),))
        trivial = (2, ((1, 2, 1, -2), (2, 1, 1), (1, 1, 1, 2)))
        for method in METHODS:
            self.assertEqual(coset_table(trivial, (), method), plain_cosets(trivial, (), method)[0])

    def test_edges(self):
        for method in METHODS:
            self.assertEqual(coset_table((0, ()), (), method), ((),))
            self.assertEqual(coset_table((0, ((), ())), ((), ()), method), ((),))
            self.assertEqual(definitions((0, ((),)), ((),), method), ())
            self.assertEqual(coset_table((1, ((),)), ((1,),), method), ((0, 0),))
            self.assertEqual(definitions((1, ()), ((1,),), method), ())
            self.assertEqual(coset_table((1, ((1,),)), (), method), ((0, 0),))
            self.assertEqual(coset_table((1, ((), (1, 1), ())), (), method), ((1, 1), (0, 0)))
            self.assertEqual(coset_table((2, ((1, -1), (2,), (1, 1))), ((2, -2),), method), ((1, 1, 0, 0), (0, 0, 1, 1)))
            self.check((1, ((1, -1, 1, 1, 1, -1, 1),)), ())
        # A relator of one letter is drawn at once where rows are created: no row is spent on it.
        self.assertEqual(definitions((2, ((2,), (1,) * 5)), (), "scans"), ((0, 1), (0, -1), (1, 1), (2, -1)))
        # Words in no relators: only what they fold to is filled.
        self.assertEqual(definitions((1, ()), ((1,) * 12, (1,) * 18), "scans"), plain_cosets((1, ()), ((1,) * 12, (1,) * 18), "scans")[1])


class TestTooMany(unittest.TestCase):
    def test_just_600_rows(self):
        for method in METHODS:
            self.assertEqual(len(definitions((1, ((1,) * 60,)), (), method)), 59)
            expect(self, TooMany, {"most": 600}, coset_table, (1, ()), (), method)
            expect(self, TooMany, {"most": 600}, definitions, (2, ()), ((1,),), method)
        table = coset_table(abelian(24, 25)[0], (), "scans")
        self.assertEqual((len(table), len(definitions(abelian(24, 25)[0], (), "scans"))), (600, 599))
        expect(self, TooMany, {"most": 600}, coset_table, abelian(24, 26)[0], (), "scans")

    def test_merged_rows_count(self):
        """One more row would be created behind 600, though far fewer are alive in the end."""
        fitting, failing = [], []
        for n in range(2, 31):
            presentation, _, size = abelian(n, 2, 2)
            expected = plain_cosets(presentation, (), "rows")
            if expected is None:
                failing.append(n)
                expect(self, TooMany, {"most": 600}, coset_table, presentation, (), "rows")
            else:
                fitting.append(n)
                self.assertEqual(definitions(presentation, (), "rows"), expected[1])
        self.assertTrue(fitting)
        for n in (20, 21, 22, 23, 24):
            presentation = abelian(n, n)[0]
            expected = plain_cosets(presentation, (), "rows")
            if expected is None:
                expect(self, TooMany, {"most": 600}, coset_table, presentation, (), "rows")
            else:
                self.assertEqual(coset_table(presentation, (), "rows"), expected[0])


class TestErrors(unittest.TestCase):
    def test_order_and_indexes(self):
        for function in (coset_table, definitions):
            for value in NO_PRESENTATIONS:
                expect(self, BadPresentation, {"index": None}, function, value, None, None)
            for value in NO_WORDS:
                expect(self, BadPresentation, {"index": 2}, function, (2, ((), (1,), value)), None, None)
                expect(self, BadWords, {"index": 1}, function, (2, ()), ((1,), value, None), None)
            for value in (None, True, 3, "", "ab", [], [(1,)], {}, ((1,),) * 7):
                expect(self, BadWords, {"index": None}, function, (2, ()), value, None)
            expect(self, BadWords, {"index": None}, function, (2, ()), ((1,) * 36, (2,)), "rows")
            expect(self, BadWords, {"index": None}, function, (2, ()), ((1,) * 37,), "rows")
            expect(self, BadWords, {"index": 0}, function, (2, ()), ((1,) * 61,), "rows")
            expect(self, BadWords, {"index": 1}, function, (2, ()), ((1,) * 60, (3,)), "rows")
            for value in ODD_VALUES + ("row", "Rows", "scan", "rows ", ["rows"], ("rows",), b"rows"):
                expect(self, BadMethod, {}, function, (1, ()), (), value)
        self.assertEqual(coset_table((1, ((1, 1),)), ((1,) * 36, ()), "rows"), ((1, 1), (0, 0)))
        self.assertEqual(coset_table((1, ((1, 1),)), ((1,),) * 6, "scans"), ((0, 0),))


if __name__ == "__main__":
    unittest.main()
