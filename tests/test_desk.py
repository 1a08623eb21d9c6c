"""The desk, promise 35."""

import unittest
from fractions import Fraction
from random import Random

from halvewright.alike import alike
from halvewright.breaks import breaks_of
from halvewright.commutators import commutators
from halvewright.desk import Desk
from halvewright.errors import NoName, NoRow, NoText, TooGreat, Twice
from halvewright.exprread import read_expr
from halvewright.lengths import length, shortest
from halvewright.normal import normal_of, normal_text, read_normal
from halvewright.parting import where_part
from halvewright.programs import map_of, maps_of, read_program
from halvewright.roots import root, turnings
from halvewright.rows import map_of_row
from halvewright.runner import sent
from halvewright.trees import read_tree, tree_text
from plainexprs import any_expr, loose_text, plain_text, plain_weight
from samples import ONE, parted, told

PROGRAM = ("a = m0", "b = high(a)", "c = com(a, b)", "abc = a^2 b~", "m = low(c) a", "zzzzzz = one")
OF_ONE = ("trees", "breaks", "row", "normal", "length", "rings", "made")
NO_TEXTS = (
    "", " ", "(", ")", "()", "a)", "(a", "a,b", "~", "^2", "a^", "a^-0", "a^01", "m1000", "m01", "m3b", "A",
    "abcdefg", "low", "low()", "as(a)", "com(a, b, c)", "a | b", "a|b", "|", "\n", "a\n", "\na", "a\nb", "a;", "1", "a b]",
    "one-one", "a^1000", ",",
)
NO_POINTS = (
    "", "2", "-1", "00", "01", "1/1", "0/1", "0/2", "2/4", "4/8", "3/2", "5/4", "2/2", "1/3", "1/6", "3/12", "1/02", "01/2",
    "1/", "/2", "/", "1//2", "1/2/", "1/2/4", "-1/2", "+1/2", "1/-2", "1.5", "0.5", "x", "a", "1/x", "x/2", "1/2\n", "\n1/2",
    "1\n/2", "1/2,", "1\\2", "(1/2)", f"1/{2 ** 61}", f"{2 ** 60 - 1}/{2 ** 61}", f"1/{2 ** 100}", f"{2 ** 60 + 1}/{2 ** 60}",
    "1e0", "1/2.0", "9" * 400 + "/2", "1/" + "9" * 400, "one",
)
NO_TIMES = ("", "0", "10", "-1", "01", "1.", "x", "a", "2\n", "\n2", "99", "123", "1/2", "+1", "1,", "12", "one")


def point_text(point):
    number = Fraction(point[0], 2 ** point[1])
    return str(number.numerator) if number.denominator == 1 else f"{number.numerator}/{number.denominator}"


def kept_desk():
    desk = Desk()
    for row in PROGRAM:
        desk.say(row)
    return desk


NAMES = maps_of(read_program("\n".join(PROGRAM)))


def asked(text):
    return map_of(read_expr(text), NAMES)


def some_texts(seed, how_many, most=24):
    """Texts of expressions with the kept names, of at most so many leaves."""
    chance = Random(seed)
    weights = {name: len(parted(mapped[0])) - 1 for name, mapped in NAMES.items()}
    found = []
    while len(found) < how_many:
        expr = any_expr(chance, chance.randint(1, 7), 5, tuple(NAMES), 4)
        if plain_weight(expr, weights) < most:
            found.append(chance.choice((plain_text(expr), loose_text(chance, expr))))
    return found


class DeskCase(unittest.TestCase):
    def setUp(self):
        self.desk = kept_desk()

    def say(self, row):
        answer = self.desk.say(row)
        self.assertIs(type(answer), str)
        return answer

    def refused(self, kind, row, value, desk=None):
        field = {Twice: "name", NoName: "name", TooGreat: "row"}.get(kind, "at")
        with self.assertRaises(kind, msg=repr(row)) as caught:
            (desk or self.desk).say(row)
        self.assertIs(type(caught.exception), kind)
        told_value = getattr(caught.exception, field)
        self.assertIs(type(told_value), str if field == "name" else int)
        self.assertEqual(told_value, value, row)


class TestAnswers(DeskCase):
    def test_by_hand(self):
        wanted = {
            "trees a": "((..).) (.(..))",
            "trees one": ". .",
            "trees a a~": ". .",
            "trees b": "(.((..).)) (.(.(..)))",
            "breaks a": "0>0 1/4>1/2 1/2>3/4 1>1",
            "breaks one": "0>0 1>1",
            "breaks low(b~)": "0>0 1/4>1/4 3/8>5/16 7/16>3/8 1/2>1/2 1>1",
            "row a": "a",
            "row one": "-",
            "row c": "abAB",
            "normal a^2 m3 m1~": "0^2 3 / 1",
            "normal one": "/",
            "normal a~": "/ 0",
            "length c": "4",
            "length one": "0",
            "length m3": "5",
            "send 1/2 a": "3/4",
            "send 1/4 a": "1/2",
            "send 0 a": "0",
            "send 1 a": "1",
            "send 1/2 b": "1/2",
            "part a | a": "same",
            "part a | b": "1/2",
            "part b | one": "3/4",
            "part m0 | a": "same",
            "alike a | b": "unlike 0",
            "alike b | one": "unlike 1",
            "alike one | one": "alike . .",
            "root 2 a^2": "root ((..).) (.(..))",
            "root 2 a": "none 0 1",
            "root 3 b^4": "none 1 4",
            "root 9 one": "root . .",
            "rings a": "1 1",
            "rings one": "1 0",
            "rings c^5": "3 0 5 0",
            "made c": "made 1",
            "made one": "made 0",
            "made a": "ends 1 -1",
            "made a~ b~": "ends -1 2",
            "made b": "ends 0 -1",
        }
        for row, answer in wanted.items():
            self.assertEqual(self.say(row), answer, row)

    def test_of_one_map(self):
        for text in some_texts(1001, 60):
            f = asked(text)
            self.assertEqual(self.say("trees " + text), tree_text(f[0]) + " " + tree_text(f[1]))
            pairs = [f"{point_text(x)}>{point_text(y)}" for x, y in breaks_of(f)]
            self.assertEqual(self.say("breaks " + text), " ".join(pairs))
            self.assertEqual(self.say("row " + text), shortest(f) or "-")
            self.assertEqual(self.say("normal " + text), normal_text(normal_of(f)))
            self.assertEqual(self.say("length " + text), str(length(f)))
            found = turnings(f)
            self.assertEqual(self.say("rings " + text), " ".join(map(str, [len(found)] + found)))
            kind, *rest = commutators(f)
            wanted = f"made {len(rest[0])}" if kind == "made" else f"ends {rest[0]} {rest[1]}"
            self.assertEqual(self.say("made " + text), wanted)

    def test_roots(self):
        for text in some_texts(1002, 30, 8) + ["a^6", "(a b)^4", "b^-8", "low(a^2) high(b^4)"]:
            for n in range(1, 10):
                told_root = root(asked(text), n)
                answer = self.say(f"root {n} {text}")
                if told_root[0] == "root":
                    self.assertEqual(answer, "root " + " ".join(tree_text(tree) for tree in told_root[1]))
                else:
                    self.assertEqual(answer, f"none {told_root[1]} {told_root[2]}")

    def test_sent_points(self):
        chance = Random(1003)
        for text in some_texts(1004, 40):
            f = asked(text)
            for d in (0, 1, 2, 5, 17, 59, 60):
                n = chance.randrange(1, 2 ** d, 2) if d else chance.randint(0, 1)
                p = (n, d)
                self.assertEqual(self.say(f"send {point_text(p)} {text}"), point_text(sent(f, p)))
        self.assertEqual(self.say(f"send {2 ** 60 - 1}/{2 ** 60} one"), f"{2 ** 60 - 1}/{2 ** 60}")

    def test_two_maps(self):
        found = some_texts(1005, 40, 16)
        for text, other in zip(found, found[1:] + found[:1]):
            f, g = asked(text), asked(other)
            where = where_part(f, g)
            self.assertEqual(self.say(f"part {text} | {other}"), "same" if where is None else point_text(where))
            kind, value = alike(f, g)
            wanted = f"unlike {value}" if kind == "unlike" else "alike " + " ".join(tree_text(tree) for tree in value)
            self.assertEqual(self.say(f"alike {text} | {other}"), wanted)
            self.assertEqual(self.say(f"part {text} | {text}"), "same")
            self.assertEqual(self.say(f"alike {text} | as({text}, b)").split(" ")[0], "alike")

    def test_all_answers_tell_one_map(self):
        for text in some_texts(1006, 20):
            one, other = (read_tree(part) for part in self.say("trees " + text).split(" "))
            f = (one, other)
            self.assertEqual(f, asked(text))
            row = self.say("row " + text)
            self.assertEqual(map_of_row("" if row == "-" else row), f)
            self.assertEqual(int(self.say("length " + text)), 0 if row == "-" else len(row))
            self.assertEqual(read_normal(self.say("normal " + text)), normal_of(f))
            for pair in self.say("breaks " + text).split(" "):
                x, y = pair.split(">")
                self.assertEqual(self.say(f"send {x} {text}"), y)
                self.assertEqual(sent(f, told(Fraction(x))), told(Fraction(y)))

    def test_blanks_within_expressions(self):
        for row, plain in (
            ("trees  a", "trees a"), ("trees a ", "trees a"), ("trees ( a )", "trees a"), ("trees   a   b  ", "trees a b"),
            ("send 1/2  a", "send 1/2 a"), ("root 2  a ^2", "root 2 a^2"), ("part  a  |  b ", "part a | b"),
            ("alike a  |  as( a ,b )", "alike a | as(a, b)"), ("length a~b", "length a~ b"),
        ):
            self.assertEqual(self.say(row), self.say(plain))


class TestKept(DeskCase):
    def test_rows_are_kept(self):
        desk = Desk()
        for row in PROGRAM:
            self.assertEqual(desk.say(row), "kept")
        for name, mapped in NAMES.items():
            self.assertEqual(desk.say("trees " + name), " ".join(tree_text(tree) for tree in mapped))

    def test_blanks_in_kept_rows(self):
        desk = Desk()
        for row in ("a  =  m0", "b = high( a )  ", "ab   = a~b"):
            self.assertEqual(desk.say(row), "kept")
        self.assertEqual(desk.say("part ab | a~ b"), "same")

    def test_desks_apart(self):
        one, other = Desk(), Desk()
        one.say("a = m0")
        self.refused(NoName, "trees a", "a", other)
        self.assertEqual(other.say("a = m1"), "kept")
        self.assertEqual(one.say("trees a"), "((..).) (.(..))")
        self.assertEqual(other.say("trees a"), "(.((..).)) (.(.(..)))")
        self.refused(Twice, "a = one", "a", other)
        self.assertEqual(one.say("b = a"), "kept")
        self.refused(NoName, "trees b", "b", other)
        self.refused(NoName, "trees a", "a", Desk())

    def test_names_as_words_of_rows(self):
        desk = Desk()
        for k, name in enumerate(("trees", "row", "send", "part", "alike", "root", "rings", "made", "length")):
            self.assertEqual(desk.say(f"{name} = m{k}"), "kept")
        self.assertEqual(desk.say("trees trees"), "((..).) (.(..))")
        self.assertEqual(desk.say("part part | send"), desk.say("part m3 | m2"))
        self.assertEqual(desk.say("send 1/2 send send"), desk.say("send 1/2 m2^2"))

    def test_many_rows(self):
        desk = Desk()
        for k, name in enumerate("abcdefghijklmnopqrst"):
            self.refused(NoText, "a = (", k, desk)
            self.refused(TooGreat, "zz = m98", k, desk)
            self.assertEqual(desk.say(f"{name} = m{k}"), "kept")


class TestRefusals(DeskCase):
    def test_rows_that_are_none(self):
        for row in (
            "", " ", "a", "one", "m0", "kept", "tree a", "Trees a", "TREES a", "trees", "breaks", "row", "normal", "length",
            "send", "part", "alike", "root", "rings", "made", " trees a", "  trees a", "treesa", "trees(a)", "trees\na",
            "\ntrees a", "\n", "send 1/2", "send 1", "send ", "send  1/2 a", "send a", "root 2", "root ", "root  2 a", "root a",
            "part | one", "part a", "part ", "part a b", "part a|b", "part a |", "part a |b", "part a| b", "part |",
            "alike a", "alike ", "alike | a", "alike a|a", "alike a |", "names", "undo a", "then a b", "rows a", "ring a",
            "part\na | b", "part a\n|\nb", "part a\n| b", "part a |\nb", "send\n1/2 a", "root\n2 a", "a trees",
            "sends 1/2 a", "roots 2 a", "trees:a", "trees,a",
        ):
            self.refused(NoRow, row, 0)

    def test_points_that_are_none(self):
        for text in NO_POINTS:
            self.refused(NoRow, f"send {text} a", 0)
            self.refused(NoRow, f"send {text} (", 0)
            self.refused(NoRow, f"send {text} x", 0)

    def test_times_that_are_none(self):
        for text in NO_TIMES:
            self.refused(NoRow, f"root {text} a", 0)
            self.refused(NoRow, f"root {text} )", 0)
            self.refused(NoRow, f"root {text} m98", 0)

    def test_expressions_that_are_none(self):
        for text in NO_TEXTS:
            for word in OF_ONE:
                self.refused(NoText, f"{word} {text}", 0)
            self.refused(NoText, f"send 1/2 {text}", 0)
            self.refused(NoText, f"root 9 {text}", 0)
            for word in ("part", "alike"):
                self.refused(NoText, f"{word} {text} | a", 0)
                self.refused(NoText, f"{word} a | {text}", 0)
                self.refused(NoText, f"{word} {text} | {text}", 0)

    def test_the_first_stroke_parts(self):
        for row in ("part a | a | a", "alike a | a | a", "part a |  | a", "part  | a | a"):
            self.refused(NoText, row, 0)

    def test_names_that_are_not_there(self):
        for word in OF_ONE + ("send 1/2", "root 3"):
            self.refused(NoName, f"{word} x", "x")
            self.refused(NoName, f"{word} a y x", "y")
            self.refused(NoName, f"{word} com(x, y)", "x")
            self.refused(NoName, f"{word} m98 x", "x")

    def test_too_great(self):
        for word in OF_ONE + ("send 1/2", "root 3"):
            self.refused(TooGreat, f"{word} m98", 0)
            self.refused(TooGreat, f"{word} a^50", 0)
            self.refused(TooGreat, f"{word} a^-999", 0)
        self.assertEqual(self.say("length m97"), "193")
        self.assertEqual(self.say("length a^49"), "49")

    def test_first_e_then_f(self):
        for word in ("part", "alike"):
            for row, kind, value in (
                ("x | (", NoText, 0), ("( | x", NoText, 0), ("m98 | (", NoText, 0), ("( | m98", NoText, 0),
                ("x | y", NoName, "x"), ("a | y", NoName, "y"), ("m98 | y", TooGreat, 0), ("x | m98", NoName, "x"),
                ("a | m98", TooGreat, 0), ("m98 | a", TooGreat, 0), ("m98 x | y", NoName, "x"), ("a | m98 y", NoName, "y"),
            ):
                self.refused(kind, f"{word} {row}", value)

    def test_rows_with_an_equals_sign(self):
        kept = len(PROGRAM)
        for row in (
            "=", " = ", "x =", "x = ", "= one", "x=one", "x =one", "x= one", " x = one", "X = one", "x1 = one", "one = one",
            "low = one", "com = a", "abcdefg = one", "x = (", "x = a = b", "x == one", "trees = ", "trees a = b", "part a | b =",
            "send 1/2 a=", "=trees a", "x = one\n", "\nx = one", "x\n= one", "x =\none", "x = one\ny = one", "x = a\nb",
            "root 2 =", "a = (", "a = a,", "x y = one", "trees =a", "x = a | b", "x\t= one",
        ):
            self.refused(NoText, row, kept)

    def test_rows_that_are_refused_as_a_programs(self):
        kept = len(PROGRAM)
        self.refused(Twice, "a = one", "a")
        self.refused(Twice, "a = x", "a")
        self.refused(Twice, "zzzzzz = m98", "zzzzzz")
        self.refused(NoName, "x = x", "x")
        self.refused(NoName, "x = m98 y z", "y")
        self.refused(TooGreat, "x = m98", kept)
        self.refused(TooGreat, "x = a^50", kept)
        self.refused(NoText, "a = (", kept)
        self.assertEqual(self.say("x = m97"), "kept")
        self.refused(TooGreat, "y = x a", kept + 1)
        self.refused(TooGreat, "y = x^2", kept + 1)
        self.assertEqual(self.say("y = x one"), "kept")
        self.refused(Twice, "y = x^2", "y")

    def test_what_is_refused_changes_nothing(self):
        rows = [f"{word} {name}" for word in OF_ONE for name in NAMES]
        before = [self.say(row) for row in rows]
        for row, kind, value in (
            ("a = b", Twice, "a"), ("x = y", NoName, "y"), ("x = m98", TooGreat, 6), ("x = (", NoText, 6), ("x", NoRow, 0),
            ("trees x", NoName, "x"), ("trees (", NoText, 0), ("trees m98", TooGreat, 0), ("send 2 a", NoRow, 0),
        ):
            self.refused(kind, row, value)
            self.assertEqual([self.say(row) for row in rows[::-1]][::-1], before)
            self.refused(NoName, "trees x", "x")
        self.assertEqual(self.say("x = m0"), "kept")
        self.refused(NoText, "y = (", 7)


class TestSteadiness(DeskCase):
    def test_same_answers_behind_others(self):
        found = some_texts(1007, 8, 12)
        rows = [f"{word} {text}" for word in OF_ONE + ("send 3/8", "root 2", "root 1") for text in found]
        rows += [f"{word} {text} | {other}" for word in ("part", "alike") for text in found for other in found[:3]]
        first = [self.say(row) for row in rows]
        self.desk.say("later = a b")
        chance = Random(1008)
        order = list(range(len(rows)))
        chance.shuffle(order)
        for k in order:
            self.assertEqual(self.say(rows[k]), first[k])
        other = kept_desk()
        self.assertEqual([other.say(row) for row in rows[::-1]][::-1], first)

    def test_the_one_is_kept_as_it_is(self):
        self.assertEqual(NAMES["zzzzzz"], ONE)
        self.assertEqual(self.say("trees zzzzzz"), ". .")


if __name__ == "__main__":
    unittest.main()
