import unittest

from brute import MATHIEU_12, ODD_VALUES, SMALL, SQUARE, cyc, expect, one, run_steps, shuffled, times, turned
from stronggens.errors import BadGroup, BadProgram, BadWord, TooMany
from stronggens.programs import expand, run_program, word_value


def value_of_letters(degree, generators, letters):
    made = one(degree)
    for letter in letters:
        p = generators[abs(letter) - 1]
        made = times(made, p if letter > 0 else turned(p))
    return made


def some_program(many, size, seed):
    """A program of so many steps, a different one for most seeds."""
    steps = []
    for place in range(size):
        seed = (seed * 1103515245 + 12345) % 2 ** 31
        a, b, kind = seed // 7 % max(place, 1), seed // 1009 % max(place, 1), seed // 64 % 4
        steps.append(("gen", seed // 11 % many) if place == 0 or kind == 0 else
                     ("inv", a) if kind == 1 else ("mul", a, b))
    return tuple(steps)


class TestWords(unittest.TestCase):
    def test_values(self):
        letters = (1, 2, -2, -1, -1, 2, 1, 1, -2)
        for start in range(len(letters)):
            word = letters[start:] + letters[:start]
            self.assertEqual(word_value(SQUARE, word), value_of_letters(*SQUARE, word))
            self.assertEqual(word_value(MATHIEU_12, word + (3, -3, -3)),
                             value_of_letters(*MATHIEU_12, word + (3, -3, -3)))
        self.assertEqual(word_value(SQUARE, ()), (0, 1, 2, 3))
        self.assertEqual(word_value((1, ()), ()), (0,))
        self.assertEqual(word_value(SQUARE, (1,) * 60), (0, 1, 2, 3))
        self.assertEqual(word_value((2, ((1, 0),) * 12), (12, -12, 12)), (1, 0))

    def test_bad_words(self):
        for value in (None, 1, "1", [1], {}, True, (1,) * 61, (None,) * 61):
            expect(self, BadWord, {"index": None}, word_value, SQUARE, value)
        for value, index in (((0,), 0), ((1, 3), 1), ((1, -3, 0), 1), ((True,), 0), ((1, False), 1), ((1, "1"), 1),
                             (((1,),), 0), ((2, [1]), 1), ((1,) * 59 + (None,), 59), ((-1, -2, 10 ** 30), 2)):
            expect(self, BadWord, {"index": index}, word_value, SQUARE, value)
        expect(self, BadWord, {"index": 0}, word_value, (3, ()), (1,))
        self.assertEqual(word_value((3, ()), ()), one(3))


class TestPrograms(unittest.TestCase):
    def test_values_and_letters(self):
        for seed in range(120):
            for group in (SQUARE, MATHIEU_12, SMALL[25]):
                program = some_program(len(group[1]), seed % 9 + 1, seed)
                value = run_steps(*group, program)
                self.assertEqual(run_program(group, program), value)
                self.assertEqual(value_of_letters(*group, expand(group, program)), value)

    def test_empty_program(self):
        self.assertEqual([run_program((3, ()), ()), expand((3, ()), ()), run_program(SQUARE, ())],
                         [one(3), (), one(4)])

    def test_nothing_is_cancelled(self):
        program = (("gen", 1), ("inv", 0), ("mul", 0, 1), ("mul", 2, 2), ("inv", 3))
        self.assertEqual(expand(SQUARE, program), (2, -2, 2, -2))
        self.assertEqual(expand(SQUARE, program[:3]), (2, -2))
        self.assertEqual(expand(SQUARE, (("gen", 0), ("gen", 1), ("mul", 0, 1), ("inv", 2))), (-2, -1))

    def test_two_thousand_letters(self):
        # 2000 = 1024 + 512 + 256 + 128 + 64 + 16, so it is reached by doubling and adding.
        doubled = [("gen", 0)] + [("mul", k, k) for k in range(10)]
        steps = list(doubled)
        for k in (9, 8, 7, 6, 4):
            steps.append(("mul", len(steps) - 1, k))
        self.assertEqual(expand(SQUARE, tuple(steps)), (1,) * 2000)
        self.assertEqual(expand(SQUARE, (*steps, ("inv", len(steps) - 1))), (-1,) * 2000)
        longer = (*steps, ("mul", 0, len(steps) - 1))
        expect(self, TooMany, {"most": 2000}, expand, SQUARE, longer)
        self.assertEqual(run_program(SQUARE, longer), (1, 2, 3, 0))
        self.assertEqual(expand(SQUARE, (*longer, ("gen", 1))), (2,))

    def test_two_thousand_steps(self):
        huge = (("gen", 0),) + tuple(("mul", k, k) for k in range(1999))
        self.assertEqual(run_program(SQUARE, huge), run_steps(*SQUARE, huge))
        expect(self, TooMany, {"most": 2000}, expand, SQUARE, huge)
        self.assertEqual(expand(SQUARE, huge[:-1] + (("inv", 0),)), (-1,))
        turning = (("gen", 1),) + tuple(("inv", k) for k in range(1999))
        self.assertEqual(expand(SQUARE, turning), (-2,))
        growing = (("gen", 0), ("gen", 1)) + tuple(("mul", k, 1) for k in range(1, 1999))
        self.assertEqual(expand(SQUARE, growing), (2,) * 1999)
        for function in (run_program, expand):
            expect(self, BadProgram, {"index": None}, function, SQUARE, huge + (("gen", 0),))

    def test_bad_programs(self):
        good = ("gen", 0)
        for function in (run_program, expand):
            for value in (None, True, 0, "gen", [good], {}, {"gen": 0}, (None,) * 2001):
                expect(self, BadProgram, {"index": None}, function, SQUARE, value)
            for step in (None, True, 0, "gen", ["gen", 0], {}, (), ("gen",), ("gen", 2), ("gen", -1), ("gen", True),
                         ("gen", "0"), ("gen", 0, 0), ("inv", 1), ("inv", -1), ("inv", False), ("inv", 0, 0), ("inv",),
                         ("mul", 0), ("mul", 0, 1), ("mul", 1, 0), ("mul", 0, -1), ("mul", -1, 0), ("mul", 0, None), ("mul", 0, 0, 0),
                         ("mul", None, 0), ("mul", False, 0), ("add", 0, 0), (0, 0), (None, None), ([], {}), (("gen", 0),), ("gen", [0])):
                expect(self, BadProgram, {"index": 1}, function, SQUARE, (good, step))
                expect(self, BadProgram, {"index": 1}, function, SQUARE, (good, step, None))
                expect(self, BadProgram, {"index": 0}, function, (4, ()), (step, good))
            expect(self, BadProgram, {"index": 0}, function, SQUARE, (("inv", 0),))
            expect(self, BadProgram, {"index": 0}, function, (4, ()), (good,))


class TestGroups(unittest.TestCase):
    def test_bad_groups(self):
        for function in (word_value, run_program, expand):
            for value in ODD_VALUES + ((), (4,), (4, (), ()), (0, ()), (13, ()), (True, ()), ("4", ()), (None, ()),
                                       (4, [(0, 1, 2, 3)]), (4, None), (4, {}), (1, ((0,),) * 13), [4, ()], (4, "")):
                expect(self, BadGroup, {"index": None}, function, value, ())
                expect(self, BadGroup, {"index": None}, function, value, None)
            for value, index in (((2, ((1, 0), (0,))), 1), ((2, (None,)), 0), ((2, ((1, 1), (0, 0))), 0),
                                 ((2, ((1, 0), (1, 0), [1, 0])), 2), ((2, ((True, False),)), 0), ((3, ((0, 1),)), 0),
                                 ((2, ((0, 1),) * 11 + ((0, 2),)), 11), ((1, ((0,), ())), 1), ((2, ("01",)), 0)):
                expect(self, BadGroup, {"index": index}, function, value, None)
        expect(self, BadGroup, {"index": None}, word_value, (1, ((0,),) * 13), (1,))

    def test_twelve_generators(self):
        group = (12, tuple(shuffled(12, seed) for seed in range(12)))
        self.assertEqual(word_value(group, (12, -1)), times(shuffled(12, 11), turned(shuffled(12, 0))))
        self.assertEqual(run_program((2, ((0, 1), (1, 0), (1, 0))), (("gen", 2),)), cyc(2, (0, 1)))


if __name__ == "__main__":
    unittest.main()
