import itertools
import unittest

from brute import ODD_VALUES, expect, shuffled
from known import KNOWN, NO_PRESENTATIONS, NO_WORDS, back, dihedral, lead, some_word
from stronggens.cosets import coset_table
from stronggens.errors import BadPresentation, BadTable, BadWord, BadWords, TooMany
from stronggens.tables import follows, standard, table_flaw, table_map

TURNS = ((1, 2), (2, 0), (0, 1))
NO_TABLES = tuple(value for value in ODD_VALUES if value != ((),)) + (
    ((0,),), ((0, 0, 0),), ((0, 0), (1, 1)), ((1, 0), (0, 1)), ((0, 1), (1, 0)), ((0, 0), (0, 0)), ((), ()), [(0, 0)], ([0, 0],),
    ((0, True),), ((False, False),), ((0, None),), ((0, "0"),), ((1, 1),), ((-1, -1),), ((0, 0), (1,)), ((0, 0), ()), ((0, 0), None),
    ((0, 1), (1, 0), (2, 2)), ((0,) * 26,), ((0,) * 25,), ((0, 0, 0, 1), (1, 1, 1, 0)), ((1, 1, 0, 0), (0, 0, 0, 0)), (((0, 0), (0, 0)),),
    ((10 ** 30, 0),), tuple(((row + 1) % 601, (row - 1) % 601) for row in range(601)), ((0, 0), [0, 0]),
)


def renumbered(table, seed):
    """The same table with the rows other than row 0 numbered otherwise."""
    places = [0] + [1 + x for x in shuffled(len(table) - 1, seed)] if len(table) > 1 else [0]
    rows = [None] * len(table)
    for row, targets in enumerate(table):
        rows[places[row]] = tuple(places[target] for target in targets)
    return tuple(rows)


def by_tuples(value, many, relators, words):
    """The flaw of a value that is well shaped, straight from the definition."""
    letters = [letter for k in range(1, many + 1) for letter in (k, -k)]
    for row in range(len(value)):
        for letter in letters:
            if lead(value, lead(value, row, (letter,)), (-letter,)) != row:
                return "letter", row, letter
    for row in range(len(value)):
        for index, relator in enumerate(relators):
            if lead(value, row, relator) != row:
                return "relator", row, index
    for index, word in enumerate(words):
        if lead(value, 0, word) != 0:
            return "word", index
    near = {0}
    for _ in value:
        near |= {target for row in near for target in value[row]}
    apart = sorted(set(range(len(value))) - near)
    return ("apart", apart[0]) if apart else None


class TestTableFlaw(unittest.TestCase):
    def test_shapes(self):
        for many in (0, 1, 2, 12):
            self.assertEqual(table_flaw((many, ()), (), ((0,) * (2 * many),)), None)
            for value in (None, True, 0, "", (), [], {}, ((0,) * (2 * many + 1),), [(0,) * (2 * many)], ([0] * (2 * many),) if many else 1,
                          ((0,) * (2 * many), ()) if many else None, ((0,) * (2 * many),) * 601, ((1,) * (2 * many),) if many else (0,),
                          ((True,) * (2 * many),) if many else (None,), ((None,) * (2 * many),) if many else ([],)):
                self.assertEqual(table_flaw((many, ()), (), value), ("shape",), value)
        for value in ODD_VALUES:
            self.assertEqual(table_flaw((3, ()), (), value), ("shape",))
        self.assertEqual(table_flaw((1, ()), (), ((0, 1), (1, 10 ** 40))), ("shape",))
        self.assertEqual(table_flaw((1, ()), (), ((0, -1),)), ("shape",))

    def test_all_tables_of_two_rows(self):
        kinds = set()
        for many, relators, words in ((1, (), ()), (1, ((1, 1),), ()), (1, ((1,),), ((1,),)), (1, (), ((1, 1), (1,))),
                                      (2, ((1, 2), (1, 1)), ()), (2, (), ((2,), (-1, 2)))):
            for entries in itertools.product((0, 1), repeat=4 * many):
                value = (entries[:2 * many], entries[2 * many:])
                flaw = by_tuples(value, many, relators, words)
                kinds.add(flaw[0] if flaw else None)
                self.assertEqual(table_flaw((many, relators), words, value), flaw, value)
        self.assertEqual(kinds, {"letter", "relator", "word", "apart", None})

    def test_all_tables_of_three_rows(self):
        for entries in itertools.product((0, 1, 2), repeat=6):
            value = (entries[:2], entries[2:4], entries[4:])
            self.assertEqual(table_flaw((1, ((1, 1),)), ((1, 1, 1),), value), by_tuples(value, 1, ((1, 1),), ((1, 1, 1),)))

    def test_coset_tables_have_none(self):
        for presentation, _, _ in KNOWN:
            for seed in range(3):
                words = tuple(some_word(presentation[0], 2, seed + k) for k in range(seed))
                table = coset_table(presentation, words, "scans")
                self.assertIsNone(table_flaw(presentation, words, table))
                for other in range(3):
                    self.assertIsNone(table_flaw(presentation, words, renumbered(table, other)))
                if len(table) > 2:
                    bent = table[:1] + (table[1][::-1],) + table[2:]
                    self.assertEqual(table_flaw(presentation, words, bent), by_tuples(bent, presentation[0], presentation[1], words))

    def test_the_order_of_flaws(self):
        self.assertEqual(table_flaw((1, ((1, 1),)), (), TURNS), ("relator", 0, 0))
        self.assertEqual(table_flaw((1, ((1,) * 3, (1, 1), (1,))), ((1,),), TURNS), ("relator", 0, 1))
        self.assertEqual(table_flaw((1, ((1,) * 3,)), ((1,) * 3, (1, 1), (1,)), TURNS), ("word", 1))
        self.assertEqual(table_flaw((1, ()), (), ((0, 0), (1, 1))), ("apart", 1))
        self.assertEqual(table_flaw((1, ()), ((1,),), ((1, 1), (0, 0), (2, 2))), ("word", 0))
        self.assertEqual(table_flaw((1, ((1,),)), (), ((0, 0), (2, 2), (1, 1))), ("relator", 1, 0))
        self.assertEqual(table_flaw((2, ()), (), ((0, 0, 0, 0), (1, 1, 1, 2), (2, 2, 2, 1))), ("letter", 1, 2))
        self.assertEqual(table_flaw((0, ((),)), ((),), ((), ())), ("apart", 1))
        self.assertEqual(table_flaw((0, ()), (), ((),) * 600), ("apart", 1))
        ring = tuple(((row + 1) % 600, (row - 1) % 600) for row in range(600))
        self.assertIsNone(table_flaw((1, ()), (), ring))
        self.assertEqual(table_flaw((1, ((1,) * 60,)), (), ring), ("relator", 0, 0))

    def test_errors(self):
        for value in NO_PRESENTATIONS:
            expect(self, BadPresentation, {"index": None}, table_flaw, value, None, None)
        for value in NO_WORDS:
            expect(self, BadPresentation, {"index": 0}, table_flaw, (2, (value,)), None, None)
            expect(self, BadWords, {"index": 0}, table_flaw, (2, ()), (value,), None)
        expect(self, BadWords, {"index": None}, table_flaw, (2, ()), ((1,) * 37,), None)
        expect(self, BadWords, {"index": None}, table_flaw, (2, ()), None, None)


class TestStandard(unittest.TestCase):
    def test_renumbered_tables(self):
        for presentation, _, _ in KNOWN:
            for seed in range(4):
                words = tuple(some_word(presentation[0], 2, seed + k) for k in range(seed))
                table = coset_table(presentation, words, "scans")
                self.assertEqual(standard(renumbered(table, seed)), table)
                self.assertEqual(standard(table), table)
        self.assertEqual(standard(((2, 1), (0, 2), (1, 0))), TURNS)
        self.assertEqual(standard(((),)), ((),))
        self.assertEqual(standard(((0,) * 24,)), ((0,) * 24,))

    def test_first_appearances(self):
        table = standard(((2, 2, 0, 0), (1, 1, 2, 2), (0, 0, 1, 1)))
        self.assertEqual(table, ((1, 1, 0, 0), (0, 0, 2, 2), (2, 2, 1, 1)))

    def test_bad_tables(self):
        for value in NO_TABLES:
            expect(self, BadTable, {}, standard, value)
            expect(self, BadTable, {}, table_map, value, None)
            expect(self, BadTable, {}, table_map, value, TURNS)
            expect(self, BadTable, {}, table_map, TURNS, value)


class TestTableMap(unittest.TestCase):
    def test_renumbered_tables(self):
        for presentation, _, _ in KNOWN:
            table = coset_table(presentation, (), "scans")
            for seed in range(3):
                other = renumbered(table, seed)
                told = table_map(table, other)
                self.assertEqual(sorted(told), list(range(len(table))))
                self.check(table, other, told)

    def check(self, one, other, told):
        self.assertTrue(type(told) is tuple and len(told) == len(one) and told[0] == 0)
        for row, targets in enumerate(one):
            self.assertEqual([told[target] for target in targets], list(other[told[row]]))

    def test_subgroups_in_one_another(self):
        presentation = dihedral(12)[0]
        wordings = [(), ((1,) * 6,), ((1,) * 4,), ((1, 1),), ((1,),), ((2,),), ((2,), (1,) * 6), ((2,), (1,) * 4), ((2, 1),), ((1,), (2,))]
        tables = [coset_table(presentation, words, "rows") for words in wordings]
        for one, words in zip(tables, wordings):
            for other in tables:
                told = table_map(one, other)
                # Row 0 can go to row 0 just if all words of the one subgroup lie in the other one.
                if all(lead(other, 0, word) == 0 for word in words):
                    self.check(one, other, told)
                else:
                    self.assertIsNone(told)
        self.assertEqual(table_map(((1, 2), (3, 0), (0, 3), (2, 1)), ((1, 1), (0, 0))), (0, 1, 1, 0))
        self.assertIsNone(table_map(((1, 1), (0, 0)), ((1, 2), (3, 0), (0, 3), (2, 1))))

    def test_other_numbers_of_letters(self):
        expect(self, BadTable, {}, table_map, ((),), ((0, 0),))
        expect(self, BadTable, {}, table_map, ((0, 0),), ((),))
        expect(self, BadTable, {}, table_map, TURNS, ((0, 0, 0, 0),))
        self.assertEqual(table_map(((),), ((),)), (0,))


class TestFollows(unittest.TestCase):
    def test_words_of_known_groups(self):
        for presentation, group, size in KNOWN:
            degree, generators = group
            for seed in range(8):
                word = some_word(presentation[0], seed % 7, seed)
                images = tuple(range(degree))
                for letter in word:
                    p = generators[abs(letter) - 1]
                    images = tuple(p[x] if letter > 0 else p.index(x) for x in images)
                self.assertIs(follows(presentation, word), images == tuple(range(degree)))
                self.assertIs(follows(presentation, word + back(word)), True)
            for relator in presentation[1]:
                self.assertIs(follows(presentation, relator), True)
                if relator:
                    self.assertIs(follows(presentation, relator[1:]), follows(presentation, relator[:1]))

    def test_errors(self):
        for value in NO_PRESENTATIONS:
            expect(self, BadPresentation, {"index": None}, follows, value, None)
        for value in (None, True, 1, "", [], {}, (1,) * 61):
            expect(self, BadWord, {"index": None}, follows, (1, ()), value)
        for value in (0, 2, -2, True, None, "1", (1,), [1]):
            expect(self, BadWord, {"index": 1}, follows, (1, ()), (1, value, None))
            expect(self, BadPresentation, {"index": 1}, follows, (1, ((), (1, value))), None)
        expect(self, TooMany, {"most": 600}, follows, (1, ()), ())
        expect(self, TooMany, {"most": 600}, follows, (2, ((1, 1),)), (1,))


if __name__ == "__main__":
    unittest.main()
