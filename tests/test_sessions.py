import itertools
import unittest

from brute import MATHIEU_11, MATHIEU_12, SQUARE, cyc, expect, members, ring, symmetric
from stronggens.chains import order
from stronggens.cycletext import read, write
from stronggens.errors import BadGroup, BadLoad, BadName, InvalidCommand, NotText, TooMany
from stronggens.generators import same
from stronggens.sessions import Session

SQUARED = "let g 4 (0 1 2 3), (1 3)\nlet h 4 (0 1)\nlet k 3 (0 1 2)"
NO_NAMES = (None, True, 0, 3, "", "G", "gG", "g1", "g_", "abcdefghi", " g", "g ", "g\n", "\u00e9", (), ("g",), ("g", []), [], ["g"], {}, {"g": 1}, ([],))
NO_TEXTS = (None, True, False, 0, 7, (), ("order g",), [], ["order g"], {}, {"order g": 1}, ([],))


def started(text=SQUARED):
    session = Session()
    session.run(text)
    return session


def state(session):
    return {name: session.group_of(name) for name in session.names()}


class Case(unittest.TestCase):
    def refused(self, text, line, column, session=None):
        """The text raises InvalidCommand with these fields, by run and by trial, and changes nothing."""
        session = session or started()
        before = state(session)
        for method in (session.run, session.trial):
            expect(self, InvalidCommand, {"line": line, "column": column}, method, text)
            self.assertEqual(state(session), before)


class TestCommands(Case):
    def test_let(self):
        session = Session()
        self.assertEqual(session.run("let g 4 (0 1 2 3),(1 3) , ( ) , (2 0)(3 1)"), [None])
        self.assertEqual(session.group_of("g"), (4, ((1, 2, 3, 0), (0, 3, 2, 1), (0, 1, 2, 3), (2, 3, 0, 1))))
        self.assertEqual(session.run("let one 12\nlet two 1   \nlet three 3 ()"), [None] * 3)
        self.assertEqual([session.group_of(name) for name in ("one", "two", "three")], [(12, ()), (1, ()), (3, ((0, 1, 2),))])
        self.assertEqual(session.run("let order 2 (0 1)\norder order\nlet g 3 (0 1)\norder g"), [None, 2, None, 2])
        self.assertEqual(session.group_of("g"), (3, ((1, 0, 2),)))
        for degree in range(1, 13):
            session.run(f"let abcdefgh {degree}")
            self.assertEqual(session.group_of("abcdefgh"), (degree, ()))

    def test_twelve_texts(self):
        session = Session()
        session.run("let g 4 " + ",".join(["(0 1)"] * 12))
        self.assertEqual(session.group_of("g"), (4, (cyc(4, (0, 1)),) * 12))
        line = "let g 4 " + ",".join(["(0 1)"] * 13)
        self.refused(line, 1, len("let g 4 " + ",".join(["(0 1)"] * 12)) + 1)
        # Ahead of the errors of the texts, but behind those of the words.
        self.refused("let g 4 (9)" + "," * 12 + "x" * 5, 1, len("let g 4 (9)") + 12)
        self.refused("let g 4" + "," * 14, 1, 7)
        self.refused("let g 4 " + "," * 14, 1, 20)
        self.refused("let g 13 " + "," * 14, 1, 7)
        self.refused("let G 4 " + "," * 14, 1, 5)
        self.refused("let g 4 " + "," * 11, 1, 9)

    def test_order_and_member(self):
        session = started()
        self.assertEqual(session.run("order g\norder h\norder k"), [8, 2, 3])
        told = {text: session.run(f"member g {text}")[0] for text in ("(0 2)", "(0 1)", "()", " ( 0 1 ) (3 2) ", "(0 1 2 3)", "(0)(2 1 3)", "(0 1 2)")}
        self.assertEqual(told, {text: read(4, text) in members(SQUARE) for text in told})
        self.assertEqual(session.run("member g  ()  "), [True])
        for p in itertools.permutations(range(4)):
            self.assertEqual(session.run(f"  member   g {write(p)}"), [p in members(SQUARE)])
        session.run("let s 12 (0 1 2 3 4 5 6 7 8 9 10 11), (0 1)")
        self.assertEqual(session.run("order s\nmember s (0 11)(5 10 3)"), [479001600, True])

    def test_orbit(self):
        session = started("let g 12 (0 11 5), (2 3)\nlet e 2")
        for point, told in ((0, (0, 5, 11)), (11, (0, 5, 11)), (2, (2, 3)), (4, (4,)), (10, (10,))):
            self.assertEqual(session.run(f"orbit g {point}"), [told])
        self.assertEqual(session.run("orbit e 1"), [(1,)])

    def test_fix(self):
        session = started()
        self.assertEqual(session.run("fix g 0 f\norder f\nmember f (1 3)\nfix g 1 g\norder g\norbit g 0"), [2, 2, True, 2, 2, (0, 2)])
        self.assertTrue(same(session.group_of("f"), (4, ((0, 3, 2, 1),))))
        self.assertTrue(same(session.group_of("g"), (4, ((2, 1, 0, 3),))))
        session.load({"s": MATHIEU_12})
        self.assertEqual(session.run("fix s 11 s\nfix s 0 s\nfix s 3 t"), [7920, 720, 72])
        self.assertEqual(order(session.group_of("t")), 72)

    def test_meet_and_join(self):
        session = started()
        self.assertEqual(session.run("meet g h m\njoin g h j\njoin h g h\nmeet j g j\njoin k k k"), [1, 24, 24, 8, 3])
        self.assertEqual(session.names(), ("g", "h", "j", "k", "m"))
        self.assertTrue(same(session.group_of("h"), symmetric(4)))
        self.assertTrue(same(session.group_of("j"), SQUARE))
        many = {"a": (12, tuple(cyc(12, (k, k + 1)) for k in range(11)) + ((tuple(range(12)),) * 1)), "b": (12, (ring(12),) * 12)}
        session.load(many)
        self.assertEqual(session.run("join a b c\njoin b b b\nmeet b a d"), [479001600, 12, 12])
        self.assertLessEqual(len(session.group_of("c")[1]), 12)

    def test_meets_of_great_groups(self):
        session = Session()
        session.load({"a": symmetric(7), "b": (7, symmetric(6)[1] and tuple(p + (6,) for p in symmetric(6)[1])), "s": symmetric(12), "m": MATHIEU_11})
        self.assertEqual(session.run("meet a b c\nmeet b a d\nmeet b b e"), [720, 720, 720])
        for text in ("meet a a x", "order a\nmeet a a x\norder nothing", "meet s s x", "meet m m x"):
            for method in (session.run, session.trial):
                before = state(session)
                expect(self, TooMany, {"most": 2000}, method, text)
                self.assertEqual(state(session), before)
        self.refused("order zz\nmeet a a x", 1, 7, session)
        # What can be seen of the line comes ahead of its groups' size.
        self.refused("meet a a X", 1, 10, session)
        self.refused("meet a a", 1, 9, session)
        self.refused("meet a a x y", 1, 12, session)
        self.assertEqual(session.run("join a a x"), [5040])

    def test_drop(self):
        session = started()
        self.assertEqual(session.run("drop h\nlet n 2\ndrop n"), [None] * 3)
        self.assertEqual(session.names(), ("g", "k"))
        self.refused("drop h", 1, 6, session)
        self.refused("drop g\norder g", 2, 7, session)
        self.assertEqual(session.run("drop g\nlet g 5\norder g"), [None, None, 1])

    def test_new_as_old(self):
        session = started()
        self.assertEqual(session.run("meet g g g\njoin h g g\nfix g 3 h\nfix h 2 h\norder h\norder g"), [8, 24, 6, 2, 2, 24])

    def test_blank_lines_and_spaces(self):
        session = Session()
        self.assertEqual(session.run(""), [])
        self.assertEqual(session.run("   "), [])
        self.assertEqual(session.run("\n\n  \n"), [])
        self.assertEqual(session.run("\n   let    g   3    (0 1)   \n  \n   order   g   \n\norbit g 2 "), [None, 2, (2,)])
        found = session.run("order g")
        found.clear()
        self.assertEqual(session.run("order g"), [2])


class TestColumns(Case):
    def test_the_example_of_each_thing(self):
        cases = (
            ("lett g 3", 1), ("Let g 3", 1), ("   order2 g", 4), ("(0 1)", 1), (",", 1), ("order\tg", 1), ("g", 1),
            ("order", 6), ("order ", 7), ("order   ", 9), ("  order", 8), ("order G", 7), ("order  zz", 8), ("order abcdefghi", 7), ("order g1", 7),
            ("order g h", 9), ("order g  7 8", 10), ("order g,", 7), ("order g\r", 7),
            ("let", 4), ("let ", 5), ("let G 3", 5), ("let abcdefghi 3", 5), ("let 3", 5), ("let x", 6), ("let x  ", 8), ("let x 0", 7), ("let x 13", 7), ("let x 03", 7),
            ("let x +3", 7), ("let x -1", 7), ("let x 3.", 7), ("let x 4(0 1)", 7), ("let x 4,(0 1)", 7), ("let x three", 7), ("let x  99999999999999999999", 8),
            ("drop", 5), ("drop x", 6), ("drop g g", 8), ("drop X", 6),
            ("member", 7), ("member x (0 1)", 8), ("member g", 9), ("member g   ", 12), ("member g(0 1)", 8), ("member (0 1)", 8),
            ("orbit", 6), ("orbit g", 8), ("orbit x 0", 7), ("orbit g 4", 9), ("orbit g -1", 9), ("orbit g 00", 9), ("orbit g 0 1", 11), ("orbit g x", 9), ("orbit k 3", 9),
            ("fix", 4), ("fix g", 6), ("fix g 0", 8), ("fix x 0 y", 5), ("fix g 4 y", 7), ("fix g 0 Y", 9), ("fix g 0 y z", 11), ("fix g 0 y0", 9), ("fix g 4", 7),
            ("meet", 5), ("meet g", 7), ("meet g h", 9), ("meet x g y", 6), ("meet g x y", 8), ("meet g k y", 8), ("meet k g y", 8), ("meet g h 0", 10), ("meet g h y z", 12),
            ("meet g k", 8), ("meet g G", 8), ("join", 5), ("join g h", 9), ("join g k y", 8), ("join g h Y", 10), ("join g h y  z", 13), ("join g y", 8), ("  join   k  h  ", 13),
        )
        for line, column in cases:
            self.refused(line, 1, column)
            self.refused(f"order g\n\n{line}\norder nothing", 3, column)
            self.refused(f"   \nlet z 5\n{line}", 3, column)

    def test_texts_of_cycles(self):
        for text, place in (("(0 1", 4), ("(0 1)(", 6), ("", 0), ("   ", 3), ("x", 0), ("(0 4)", 3), ("(0 01)", 3), ("(0 1)(2 0)", 8), ("(0,1)", 2), ("(0 1))", 5), ("0 1", 0),
                            ("(0 1) (2 3) y", 12), ("( 0 1  ", 7), ("(-1)", 1), ("(1 1)", 3), ("(0 1)\t", 5), ("(0 99999999999999999999)", 3)):
            line = "member g " + text
            column = 9 + place + 1
            self.refused(line, 1, column)
            self.refused(f"order g\n{line}\n{line}", 2, column)
            if "," not in text and text.strip(" "):
                self.check_let(text, place)

    def check_let(self, text, place):
        for before, behind in (("", ""), ("", ",(0 1)"), ("(0 1),", ""), ("(0 1) , ", ",()"), ("(),(),", ",x"), (" (0)(1),", ",,,")):
            line = f"let x 4 {before}{text}{behind}"
            self.refused(line, 1, len(f"let x 4 {before}") + place + 1)
            self.refused(f"\norder g\n{line}", 3, len(f"let x 4 {before}") + place + 1)

    def test_texts_that_end_too_early(self):
        cases = (("let x 4 ,", 9), ("let x 4 (0 1),", 15), ("let x 4 (0 1), ", 16), ("let x 4 (0 1", 13), ("let x 4 (0 1 ,(2 3)", 14), ("let x 4 (0 1), ,()", 16),
                 ("let x 4   ,()", 11), ("let x 4 (0 1),(2 3", 19), ("let x 4 (", 10), ("let x 4 (,", 10))
        for line, column in cases:
            self.refused(line, 1, column)
        self.refused("let x 4 (0 1)\nlet y 4 (0 1),", 2, 15)

    def test_the_degree_counts_for_the_points(self):
        self.refused("let x 3 (0 3)", 1, 12)
        self.assertEqual(started().run("let x 12 (0 11)"), [None])
        self.refused("let x 11 (0 11)", 1, 13)
        self.refused("member k (0 3)", 1, 13)

    def test_an_error_later_takes_all_back(self):
        session = started()
        before = state(session)
        self.refused("let z 3\ndrop g\nfix h 0 h\njoin k k k\norder nothing", 5, 7, session)
        self.assertEqual(state(session), before)
        self.assertEqual(session.run("order g"), [8])

    def test_names_that_stand_for_groups_at_that_time(self):
        self.assertEqual(started().run("let z 3\norder z\ndrop z"), [None, 1, None])
        self.refused("order z\nlet z 3", 1, 7)
        self.refused("let z 3\ndrop z\norder z", 3, 7)
        # An other degree than at first.
        self.refused("let g 3\nmeet g h x", 2, 8)
        self.assertEqual(started().run("let g 3\nmeet g k x"), [None, 1])


class TestMethods(Case):
    def test_no_texts(self):
        session = started()
        for value in NO_TEXTS:
            expect(self, NotText, {}, session.run, value)
            expect(self, NotText, {}, session.trial, value)
        self.assertEqual(session.names(), ("g", "h", "k"))

    def test_trial(self):
        session = started()
        before = state(session)
        text = "let z 5 (0 1 2 3 4)\nfix z 0 g\ndrop h\norder z\norbit z 1"
        self.assertEqual(session.trial(text), [None, 1, None, 5, (0, 1, 2, 3, 4)])
        self.assertEqual(state(session), before)
        self.assertEqual(session.run(text), session.trial("let z 5 (0 1 2 3 4)\nfix z 0 g\nlet h 2\ndrop h\norder z\norbit z 1")[:2] + [None, 5, (0, 1, 2, 3, 4)])
        # A trial is nothing that undo takes back.
        session = started()
        session.trial("let z 5")
        self.assertIs(session.undo(), True)
        self.assertEqual(session.names(), ())
        self.assertIs(session.undo(), False)

    def test_names_and_groups(self):
        session = Session()
        self.assertEqual(session.names(), ())
        session.run("let z 2\nlet ab 2\nlet a 3\nlet abcdefgh 1")
        self.assertEqual(session.names(), ("a", "ab", "abcdefgh", "z"))
        for value in NO_NAMES + ("b", "order", "zz"):
            expect(self, BadName, {}, session.group_of, value)
        session.run("drop ab")
        expect(self, BadName, {}, session.group_of, "ab")

    def test_load(self):
        rows = {"b": SQUARE, "a": (3, ()), "zz": MATHIEU_12}
        for keys in itertools.permutations(rows):
            session = started()
            given = {key: rows[key] for key in keys}
            self.assertIsNone(session.load(given))
            self.assertEqual(list(given), list(keys))
            self.assertEqual(session.names(), ("a", "b", "g", "h", "k", "zz"))
            self.assertEqual({name: session.group_of(name) for name in rows}, rows)
            given.clear()
            self.assertEqual(session.group_of("b"), SQUARE)
        session.load({"g": (5, ())})
        self.assertEqual(session.run("order g\norder b"), [1, 8])
        session.load({})
        self.assertEqual(session.names(), ("a", "b", "g", "h", "k", "zz"))

    def test_wrong_loads(self):
        session = started()
        before = state(session)
        for value in (None, True, 0, "g", (), (("g", SQUARE),), [], [("g", SQUARE)], ([],)):
            expect(self, BadLoad, {}, session.load, value)
        for key in (None, True, 0, "", "G", "abcdefghi", "g1", (), ("g",), "g "):
            for groups in ({key: SQUARE}, {"a": SQUARE, key: SQUARE}, {key: None, "a": 7}):
                expect(self, BadName, {}, session.load, groups)
        for wrong, index in ((None, None), ((13, ()), None), ((3, ((0, 1),)), 0), ((3, ((0, 1, 2), (0, 1))), 1), ([3, ()], None), ((2, (None,)), 0), ({}, None)):
            for keys in itertools.permutations(("b", "d", "a")):
                worths = {"a": SQUARE, "b": wrong, "d": (2, ((0, 1), (1, 0), 7))}
                expect(self, BadGroup, {"index": index}, session.load, {key: worths[key] for key in keys})
        self.assertEqual(state(session), before)
        self.assertIs(session.undo(), True)
        self.assertIs(session.undo(), False)

    def test_undo(self):
        session = Session()
        self.assertIs(session.undo(), False)
        states = [state(session)]
        for step in ("let g 4 (0 1 2 3)", "fix g 0 h\ndrop g", {"g": SQUARE, "q": (2, ())}, "order g", "", {}, "let g 3\ndrop q", {"h": symmetric(3)}):
            if type(step) is dict:
                session.load(step)
            else:
                session.run(step)
            # What raises an error, and a trial, leave nothing to take back.
            for text in ("order nothing", "let a 3\norder", "let s 12 (0 1 2 3 4 5 6 7 8 9 10 11),(0 1)\nmeet s s s"):
                self.assertRaises((InvalidCommand, TooMany), session.run, text)
                self.assertRaises((InvalidCommand, TooMany), session.trial, text)
            self.assertRaises(BadName, session.load, {"G": SQUARE})
            self.assertRaises(BadLoad, session.load, None)
            self.assertRaises(NotText, session.run, None)
            session.trial("let a 5")
            states.append(state(session))
        while len(states) > 1:
            self.assertEqual(state(session), states.pop())
            self.assertIs(session.undo(), True)
        self.assertEqual(state(session), {})
        self.assertIs(session.undo(), False)
        self.assertIs(session.undo(), False)
        session.run("let g 2")
        self.assertIs(session.undo(), True)
        self.assertEqual(session.names(), ())
        self.assertIs(session.undo(), False)

    def test_undo_then_run(self):
        session = started()
        session.run("drop g")
        session.undo()
        session.run("drop h")
        self.assertEqual(session.names(), ("g", "k"))
        self.assertIs(session.undo(), True)
        self.assertEqual(session.names(), ("g", "h", "k"))
        self.assertIs(session.undo(), True)
        self.assertEqual(session.names(), ())

    def test_sessions_are_apart(self):
        one, other = started(), Session()
        self.assertEqual(other.names(), ())
        other.run("let g 2")
        self.assertEqual(one.run("order g"), [8])

    def test_methods_of_the_class_itself(self):
        for name in ("run", "trial", "names", "group_of", "load", "undo"):
            self.assertIn(name, vars(Session))
        self.assertEqual(Session.__module__, "stronggens.sessions")


if __name__ == "__main__":
    unittest.main()
