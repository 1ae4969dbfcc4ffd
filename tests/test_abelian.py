import itertools
import math
import unittest

from brute import expect
from stronggens.abelian import diagonal, shows_answer, shows_diagonal, solve
from stronggens.errors import BadMatrix, BadTarget

MILLION = 1000000


def number(seed, most):
    """Some integer from -most to most."""
    for _ in range(3):
        seed = (seed * 1103515245 + 12345) % 2 ** 31
    return seed // 8 % (2 * most + 1) - most


def some_matrices():
    for seed in range(140):
        rows, width = seed % 6 + 1, seed // 6 % 6 + 1
        most = (1, 2, 9, 60, 1000, MILLION)[seed % 11 % 6]
        yield tuple(tuple(number(seed * 97 + i * 13 + j * 7, most) for j in range(width)) for i in range(rows))
    for rows, width in itertools.product((1, 2, 5, 6), repeat=2):
        yield ((0,) * width,) * rows
        yield ((MILLION,) * width,) * rows
        yield tuple(tuple((-1) ** (i * j) * MILLION for j in range(width)) for i in range(rows))
        # Of one rank, and with rows of zeros.
        yield tuple(tuple((i + 2) * (j - 3) * 6 for j in range(width)) for i in range(rows))
        yield tuple((0,) * width if i % 2 else tuple(i + j * j for j in range(width)) for i in range(rows))
        yield tuple(tuple((i == j) * (4, 6, 10, 15, 0, 21)[i] for j in range(width)) for i in range(rows))


def det(rows):
    """The determinant, by the first row."""
    if len(rows) == 1:
        return rows[0][0]
    return sum((-1) ** j * rows[0][j] * det([row[:j] + row[j + 1:] for row in rows[1:]]) for j in range(len(rows)) if rows[0][j])


def times(one, other):
    return tuple(tuple(sum(a * b for a, b in zip(row, column)) for column in zip(*other)) for row in one)


def minors(matrix, size):
    """The greatest common divisor of all determinants of so many rows and columns."""
    found = 0
    for rows in itertools.combinations(matrix, size):
        for places in itertools.combinations(range(len(matrix[0])), size):
            found = math.gcd(found, det([tuple(row[j] for j in places) for row in rows]))
    return found


MATRICES = tuple(some_matrices())
GOOD = ((2, 4), (6, 8))
# left * GOOD * right is the diagonal matrix of 2 and 4.
SHOWN = (((1, 0), (3, -1)), ((2, 0), (0, 4)), ((1, -2), (0, 1)))


class TestDiagonal(unittest.TestCase):
    def test_transforms_and_products(self):
        for matrix in MATRICES:
            left, form, right = diagonal(matrix)
            self.assertEqual((len(left), len(right)), (len(matrix), len(matrix[0])))
            for told in (left, form, right):
                self.assertTrue(type(told) is tuple and all(type(row) is tuple and all(type(x) is int for x in row) for row in told))
            self.assertEqual([abs(det(left)), abs(det(right))], [1, 1])
            self.assertEqual(times(times(left, matrix), right), form)
            self.assertIs(shows_diagonal(matrix, (left, form, right)), True)

    def test_diagonal_by_minors(self):
        for matrix in MATRICES:
            form = diagonal(matrix)[1]
            product = 1
            for size in range(1, min(len(matrix), len(matrix[0])) + 1):
                product *= form[size - 1][size - 1]
                self.assertEqual(product, minors(matrix, size), matrix)
            entries = [form[k][k] for k in range(min(len(matrix), len(matrix[0])))]
            self.assertTrue(all(entry >= 0 for entry in entries))
            self.assertTrue(all(b % a == 0 if a else b == 0 for a, b in zip(entries, entries[1:])))
            self.assertFalse(any(entry for i, row in enumerate(form) for j, entry in enumerate(row) if i != j))

    def test_bent_values(self):
        self.assertIs(shows_diagonal(GOOD, SHOWN), True)
        left, form, right = SHOWN
        bent = [
            (left, form), (left, form, right, right), [left, form, right], (list(left), form, right), (left, [list(row) for row in form], right),
            (left, form, (right[0], list(right[1]))), (left, form, right[:1]), (left, form[:1], right), (left + ((0, 0),), form, right),
            (left, ((2, 0), (0, -4)), ((1, 2), (0, -1))), (left, ((4, 0), (0, 2)), right), (((3, -1), (1, 0)), ((0, 4), (2, 0)), right),
            (((1, 0), (3, True)), form, right), (((1, 0), (3, -1), ()), form, right), (((1,), (3, -1)), form, right), ((left[0] + (0,), left[1]), form, right),
            (((2, 0), (3, -1)), ((4, 0), (0, 4)), right), (((1, 0), (0, 1)), GOOD, ((1, 0), (0, 1))), (left, form, ((1, -2), (0, 2))),
            (left, (form[0], (0, 4, 0)), right), (left, ((2, 0), (0, 4.0)), right), (left, ((2, 0), (0, "4")), right), (left, ((2, 0), (0, [4])), right),
            (left, ((2, False), (0, 4)), right), (((0, 0), (0, 0)), ((0, 0), (0, 0)), ((0, 0), (0, 0))),
        ]
        for value in bent + [None, True, 0, "", (), {}, [], ((), (), ()), (None, None, None), "abc", (left, {}, right), (1, 2, 3)]:
            self.assertIs(shows_diagonal(GOOD, value), False, value)

    def test_negative_and_undivided_entries(self):
        one = ((1,),)
        self.assertIs(shows_diagonal(((-3,),), (((-1,),), ((3,),), one)), True)
        self.assertIs(shows_diagonal(((-3,),), (one, ((-3,),), one)), False)
        unit = ((1, 0), (0, 1))
        for entries, told in (((2, 4), True), ((4, 2), False), ((0, 2), False), ((2, 0), True), ((0, 0), True), ((3, 3), True), ((2, 3), False), ((1, -1), False)):
            matrix = ((entries[0], 0), (0, entries[1]))
            self.assertIs(shows_diagonal(matrix, (unit, matrix, unit)), told)
        self.assertIs(shows_diagonal(((1, 1), (0, 1)), (unit, ((1, 1), (0, 1)), unit)), False)
        self.assertIs(shows_diagonal(((2, 0), (0, 4)), (((1, 10 ** 60), (0, 1)), ((2, 4 * 10 ** 60), (0, 4)), unit)), False)
        self.assertIs(shows_diagonal(((2, 0), (0, 4)), (((1, 10 ** 60), (0, 1)), ((2, 0), (0, 4)), ((1, -2 * 10 ** 60), (0, 1)))), True)

    def test_each_changed_entry(self):
        for matrix in MATRICES[::17]:
            value = diagonal(matrix)
            for part in range(3):
                for i, row in enumerate(value[part]):
                    for j in range(len(row)):
                        changed = value[part][:i] + (row[:j] + (row[j] + 1,) + row[j + 1:],) + value[part][i + 1:]
                        self.check_changed(matrix, value[:part] + (changed,) + value[part + 1:])

    def check_changed(self, matrix, value):
        left, form, right = value
        good = abs(det(left)) == 1 and abs(det(right)) == 1 and times(times(left, matrix), right) == form
        entries = [form[k][k] for k in range(min(len(form), len(form[0])))]
        good = good and not any(entry for i, row in enumerate(form) for j, entry in enumerate(row) if i != j)
        good = good and all(a >= 0 for a in entries) and all(b % a == 0 if a else b == 0 for a, b in zip(entries, entries[1:]))
        self.assertIs(shows_diagonal(matrix, value), good)


class TestSolve(unittest.TestCase):
    def check(self, matrix, target, reached=None):
        value = solve(matrix, target)
        self.assertIs(shows_answer(matrix, target, value), True)
        if value[0] == "solution":
            self.assertEqual(len(value), 2)
            self.assertEqual(tuple(sum(a * x for a, x in zip(row, value[1])) for row in matrix), target)
        else:
            name, weights, divisor = value
            self.assertEqual((name, len(weights), divisor >= 2), ("obstacle", len(matrix), True))
            self.assertFalse(any(sum(w * row[j] for w, row in zip(weights, matrix)) % divisor for j in range(len(matrix[0]))))
            self.assertNotEqual(sum(w * t for w, t in zip(weights, target)) % divisor, 0)
        if reached is not None:
            self.assertEqual(value[0], "solution" if reached else "obstacle")
        return value

    def test_targets(self):
        kinds = {"solution": 0, "obstacle": 0}
        for seed, matrix in enumerate(MATRICES):
            point = tuple(number(seed + j, 3) for j in range(len(matrix[0])))
            target = tuple(sum(a * x for a, x in zip(row, point)) for row in matrix)
            if all(abs(entry) <= MILLION for entry in target):
                self.check(matrix, target, True)
                for place in range(len(target)):
                    near = target[:place] + (min(target[place] + 1, MILLION),) + target[place + 1:]
                    kinds[self.check(matrix, near)[0]] += 1
            kinds[self.check(matrix, tuple(number(seed + 5 * i, MILLION) for i in range(len(matrix))))[0]] += 1
            self.check(matrix, (0,) * len(matrix), True)
        self.assertGreater(min(kinds.values()), 100)

    def test_edges(self):
        self.check(((0,),), (0,), True)
        self.check(((0,),), (-MILLION,), False)
        self.check(((2,),), (MILLION,), True)
        self.check(((2,),), (1,), False)
        self.check(((0, 0), (1, 1)), (1, 0), False)
        self.check(((2, 3),), (1,), True)
        self.check(((4, 6),), (1,), False)
        self.check(((1, 1), (1, 1)), (0, 1), False)
        self.check(((MILLION, -MILLION),) * 6, (MILLION,) * 6, True)
        self.check(((MILLION, -MILLION),) * 6, (MILLION,) * 5 + (-MILLION,), False)

    def test_values_of_all_kinds(self):
        matrix, target = ((2, 4), (0, 3)), (2, 3)
        good = ("solution", (-1, 1))
        self.assertIs(shows_answer(matrix, target, good), True)
        bent = [
            ("solution", (1, 0)), ("solution", [-1, 1]), ["solution", (-1, 1)], ("solution",), ("solution", (-1, 1), 2), ("solution", (-1, True)),
            ("solution", (-1, 1, 0)), ("solution", (-1,)), ("solution", ("-1", 1)), ("solution", (-1, [1])), ("obstacle", (-1, 1)), ("Solution", (-1, 1)),
            ("solution", None), ((-1, 1),), (True, (-1, 1)), ([], (-1, 1)), ("solution", {}), None, True, 5, "", "solution", (), {}, [], ((), ()), (None, None, None),
            ("obstacle", (0, 0), 2), ("obstacle", (1, 0), 2), ("obstacle", (0, 1), 3),
        ]
        for value in bent:
            self.assertIs(shows_answer(matrix, target, value), False, value)
        target = (1, 3)
        for value, told in ((("obstacle", (1, 0), 2), True), (("obstacle", (3, 0), 2), True), (("obstacle", (1, 2), 2), True), (("obstacle", (1, 0), -2), False),
                            (("obstacle", (1, 0), 1), False), (("obstacle", (1, 0), 0), False), (("obstacle", (1, 0), 4), False), (("obstacle", (2, 0), 2), False),
                            (("obstacle", (2, 0), 4), True), (("obstacle", (10 ** 40 + 1, 0), 2), True), (("obstacle", (1, 0), True), False),
                            (("obstacle", (1, False), 2), False), (("obstacle", [1, 0], 2), False), (("obstacle", (1,), 2), False), (("obstacle", (1, 0, 0), 2), False),
                            (("obstacle", (1, 0), "2"), False), (("obstacle", (1, 0)), False), (("obstacle", (1, 0), 2, 2), False), (("solution", (1, 0), 2), False),
                            (("obstacle", None, 2), False), (("obstacle", (1, 0), None), False), (("obstacle", (1, [0]), 2), False), (("solution", (0, 0)), False)):
            self.assertIs(shows_answer(matrix, target, value), told, value)
        self.assertIs(shows_answer(((0, 0),), (3,), ("obstacle", (1,), 10 ** 50)), True)
        self.assertIs(shows_answer(((0, 10 ** 6),), (0,), ("solution", (10 ** 50, 0))), True)


class TestErrors(unittest.TestCase):
    wrong = (
        (None, None), (True, None), (3, None), ("12", None), ([[1]], None), ({}, None), ((), None), (((1,),) * 7, None), ([(1,)], None),
        ((1,), 0), (((),), 0), (((1,) * 7,), 0), (([1],), 0), (((1,), [1]), 1), (((1,), (1, 2)), 1), (((1, 2), (1,)), 1), (((1,), ()), 1), (((1,), 1), 1),
        (((1,), (True,)), 1), (((False,), (1,)), 0), (((MILLION + 1,),), 0), (((1, 2), (3, -MILLION - 1)), 1), (((1,), (2,), ("3",)), 2), (((1, None),), 0),
        (((1, [2]),), 0), (((1,), (2,), (3,), (4,), (5,), (6, 6)), 5), (((1,), (2, 2), [3]), 1), (((1,), {}), 1), (("1",), 0), (((1.0,),), 0),
        (([1], (1,)), 0), ((((1,),),), 0),
    )

    def test_bad_matrices(self):
        for value, index in self.wrong:
            expect(self, BadMatrix, {"index": index}, diagonal, value)
            expect(self, BadMatrix, {"index": index}, shows_diagonal, value, SHOWN)
            expect(self, BadMatrix, {"index": index}, solve, value, None)
            expect(self, BadMatrix, {"index": index}, shows_answer, value, None, None)
        self.assertEqual(diagonal(((MILLION,),))[1], ((MILLION,),))
        self.assertEqual(diagonal(((-MILLION,),))[1], ((MILLION,),))
        self.assertEqual(len(diagonal(((1,) * 6,) * 6)[1]), 6)

    def test_bad_targets(self):
        for value in (None, True, 1, "12", [1, 2], (1,), (1, 2, 3), (1, True), (1, None), (1, "2"), (MILLION + 1, 0), (0, -MILLION - 1), (1, [2]), {}, (), ((1, 2),), (1, {})):
            expect(self, BadTarget, {}, solve, GOOD, value)
            expect(self, BadTarget, {}, shows_answer, GOOD, value, None)
        self.assertEqual(solve(((1,),), (-MILLION,)), ("solution", (-MILLION,)))


if __name__ == "__main__":
    unittest.main()
