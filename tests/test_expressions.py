"""Expressions read and written, promises 16 and 17."""

import unittest
from random import Random

from halvewright.errors import NoText
from halvewright.exprread import read_expr
from halvewright.exprwrite import expr_text
from plainexprs import NAMES, WORDS, any_expr, loose_text, many_parts, nested, plain_expr, plain_text
from samples import copied, is_number

A, B, C = ("name", "a"), ("name", "b"), ("name", "c")

WRITTEN = {
    "one": ("one",),
    "m0": ("move", 0),
    "m7": ("move", 7),
    "m10": ("move", 10),
    "m999": ("move", 999),
    "a": A,
    "m": ("name", "m"),
    "zzzzzz": ("name", "zzzzzz"),
    "a b": ("then", A, B),
    "a b c": ("then", ("then", A, B), C),
    "a (b c)": ("then", A, ("then", B, C)),
    "a (b c) a": ("then", ("then", A, ("then", B, C)), A),
    "a b (b c)": ("then", ("then", A, B), ("then", B, C)),
    "a~": ("back", A),
    "a~~": ("back", ("back", A)),
    "a b~": ("then", A, ("back", B)),
    "(a b)~": ("back", ("then", A, B)),
    "a~ b": ("then", ("back", A), B),
    "a^2": ("power", A, 2),
    "a^0": ("power", A, 0),
    "a^-1": ("power", A, -1),
    "a^999": ("power", A, 999),
    "a^-999": ("power", A, -999),
    "a^2^3": ("power", ("power", A, 2), 3),
    "a^2~": ("back", ("power", A, 2)),
    "a~^2": ("power", ("back", A), 2),
    "a b^2": ("then", A, ("power", B, 2)),
    "(a b)^-2": ("power", ("then", A, B), -2),
    "m3^2": ("power", ("move", 3), 2),
    "one~": ("back", ("one",)),
    "low(a)": ("low", A),
    "high(a b)": ("high", ("then", A, B)),
    "low(high(low(one)))": ("low", ("high", ("low", ("one",)))),
    "low(a)~^3": ("power", ("back", ("low", A)), 3),
    "as(a, b)": ("as", A, B),
    "com(a, b)": ("com", A, B),
    "com(a b, c a)": ("com", ("then", A, B), ("then", C, A)),
    "as(a (b c), com(a, b)~)": ("as", ("then", A, ("then", B, C)), ("back", ("com", A, B))),
    "as(a, b) com(a, b)": ("then", ("as", A, B), ("com", A, B)),
    "a low(b) c": ("then", ("then", A, ("low", B)), C),
    "(a b)~ (b c)^2": ("then", ("back", ("then", A, B)), ("power", ("then", B, C), 2)),
    "ones lower highs asx comes": ("then", ("then", ("then", ("then", ("name", "ones"), ("name", "lower")),
                                                     ("name", "highs")), ("name", "asx")), ("name", "comes")),
}

READ = {
    "(a)": A, "((a))": A, "( a )": A, "  a": A, "a  ": A, " ( ( a) ) ": A,
    "a  b": ("then", A, B), "(a b)": ("then", A, B), "(a) (b)": ("then", A, B), "(a)(b)": ("then", A, B),
    "a(b)": ("then", A, B), "(a)b": ("then", A, B), "a (b)": ("then", A, B),
    "(a b) c": ("then", ("then", A, B), C), "a(b c)": ("then", A, ("then", B, C)),
    "a^2b": ("then", ("power", A, 2), B), "a~b": ("then", ("back", A), B),
    "a^-12b": ("then", ("power", A, -12), B), "a^2m3": ("then", ("power", A, 2), ("move", 3)),
    "a^2one": ("then", ("power", A, 2), ("one",)), "a~low(b)": ("then", ("back", A), ("low", B)),
    "a^2(b)": ("then", ("power", A, 2), B), "a~(b)": ("then", ("back", A), B),
    "low(a)b": ("then", ("low", A), B), "low(a)low(b)": ("then", ("low", A), ("low", B)),
    "low(a)(b)": ("then", ("low", A), B), "b low(a)": ("then", B, ("low", A)),
    "a ~": ("back", A), "a ^2": ("power", A, 2), "a ~ ~": ("back", ("back", A)), "a  ^2  ~ b":
        ("then", ("back", ("power", A, 2)), B),
    "(a)~": ("back", A), "(a)^2": ("power", A, 2), "((a b))~": ("back", ("then", A, B)),
    "(a~)~": ("back", ("back", A)), "(a^2)^3": ("power", ("power", A, 2), 3),
    "low (a)": ("low", A), "low  ( a )": ("low", A), "low((a))": ("low", A), "(low(a))": ("low", A),
    "as(a,b)": ("as", A, B), "as ( a , b )": ("as", A, B), "as(a  ,  b)": ("as", A, B), "com((a),(b))": ("com", A, B),
    "one one": ("then", ("one",), ("one",)), "one(a)": ("then", ("one",), A), "m3(a)": ("then", ("move", 3), A),
    "one m0": ("then", ("one",), ("move", 0)), "m (m3)": ("then", ("name", "m"), ("move", 3)),
    "alow(b)": ("then", ("name", "alow"), B), "onelow(b)": ("then", ("name", "onelow"), B),
    "a^0": ("power", A, 0), "m0^0": ("power", ("move", 0), 0), "one^-7": ("power", ("one",), -7),
}

REFUSED = [
    "", " ", "     ", "m3b", "3", "3m", "a3", "a3b", "m03", "m00", "m007", "m1000", "m-1", "m 3", "M3", "mm3", "0",
    "a^-0", "a^03", "a^00", "a^-03", "a^1000", "a^-1000", "a^", "a^-", "a^b", "a^--3", "a^+3", "a^-b", "a^2.5",
    "a^ 2", "a^- 2", "a^ -2", "a^1 2", "a ^ 2", "a^(2)", "a^m3", "a^~", "^", "^2", "^2a", "~", "~a", "(~a)", "(^2)a",
    "a (~)", "low(~)", "as(~, a)", "as(a, ^2)", "a^2 3", "a^2b3", "a~3",
    "abcdefg", "a abcdefg", "A", "aB", "One", "ONE", "Low(a)",
    "low", "high", "as", "com", "low a", "low~", "low^2", "a low", "low low(a)", "(low)", "(low)(a)", "low)a(",
    "one, one", "low~(a)", "low^2(a)", "as,(a, b)",
    "(", ")", "()", "( )", "a()", "()a", "(a", "a)", "((a)", "(a))", ")a(", "a)(b", "(a)) ((b)", "a (b",
    "low(", "low()", "low( )", "low(a", "low(a))", "low((a)", "low(a, b)", "high(,)", "low(,a)", "low(a,)",
    "as()", "as(a)", "as(a,)", "as(,a)", "as(,)", "as(a, b, c)", "as(a,, b)", "as(a b)", "com(a)", "com(a, b",
    "com(a, b))", "com(a, (b)", "com((a, b))", "as((a), b, )", "as(a), b", "as(a))(b, c)",
    ",", "a,", ",a", "a, b", "(a, b)", "(a,)", "low((a, b))", "a,(b)",
    "a\n", "\na", "a\nb", "a \n b", "\n", "a^\n2", "low\n(a)", "as(a,\nb)", "a^2\n", "a~\n",
    "a-b", "a - b", "-a", "a-1", "a+b", "a*b", "a/b", "a.b", "a=b", "a = b", "a_b", "a|b", "a'", "a!", "[a]", "{a}",
    "a;b", "a:b", "a#", "a@b", "a$", "a&b", "a\\b", "\"a\"", "`a`", "a?", "<a>", "_",
]


def ordinary(seed, how_many):
    chance = Random(seed)
    return [any_expr(chance, chance.randint(1, 30), 10) for _ in range(how_many)]


class ExprCase(unittest.TestCase):
    def check_told(self, expr):
        """An expression that is told: tuples of just the forms of the document."""
        self.assertIs(type(expr), tuple)
        kind, *parts = expr
        sizes = {"one": 0, "move": 1, "name": 1, "back": 1, "low": 1, "high": 1}
        self.assertEqual(len(parts), sizes.get(kind, 2))
        self.assertIn(kind, set(sizes) | {"then", "power", "as", "com"})
        if kind == "move":
            self.assertTrue(is_number(parts[0]))
        elif kind == "name":
            self.assertIs(type(parts[0]), str)
        elif kind == "power":
            self.assertTrue(is_number(parts[1]))
            self.check_told(parts[0])
        else:
            for part in parts:
                self.check_told(part)

    def read(self, text):
        expr = read_expr(text)
        self.check_told(expr)
        return expr

    def refused(self, text):
        with self.assertRaises(NoText, msg=repr(text)) as caught:
            read_expr(text)
        self.assertTrue(is_number(caught.exception.at))
        self.assertEqual(caught.exception.at, 0)


class TestWritten(ExprCase):
    def test_by_hand(self):
        for text, expr in WRITTEN.items():
            self.assertEqual(expr_text(expr), text)
            self.assertEqual(self.read(text), expr)

    def test_some_of_all_kinds(self):
        kinds = set()
        for expr in ordinary(301, 600):
            self.assertTrue(many_parts(expr) <= 30 and nested(expr) <= 10)
            text = expr_text(expr)
            self.assertIs(type(text), str)
            self.assertEqual(text, plain_text(expr))
            self.assertEqual(self.read(text), expr)
            kinds.add(expr[0])
        self.assertEqual(len(kinds), 10)

    def test_each_kind_within_each(self):
        single = [("one",), ("move", 12), A, ("power", A, -3)]
        single += [(kind, A) for kind in ("back", "low", "high")]
        single += [(kind, A, B) for kind in ("then", "as", "com")]
        for e in single:
            for f in single:
                around = [("back", e), ("power", e, 5), ("low", e), ("high", e)]
                around += [("then", e, f), ("as", e, f), ("com", e, f)]
                for expr in around:
                    self.assertEqual(expr_text(expr), plain_text(expr))
                    self.assertEqual(self.read(expr_text(expr)), expr)

    def test_numbers(self):
        for k in range(1000):
            self.assertEqual(expr_text(("move", k)), f"m{k}")
            self.assertEqual(self.read(f"m{k}"), ("move", k))
        for k in range(-999, 1000):
            self.assertEqual(expr_text(("power", A, k)), f"a^{k}")
            self.assertEqual(self.read(f"a^{k}"), ("power", A, k))

    def test_no_bracket_that_could_be_left_out(self):
        for expr in list(WRITTEN.values()) + ordinary(302, 150):
            text = expr_text(expr)
            begins = []
            for at, sign in enumerate(text):
                if sign == "(":
                    begins.append(at)
                elif sign == ")":
                    begin = begins.pop()
                    less = text[:begin] + text[begin + 1:at] + text[at + 1:]
                    self.assertNotEqual(plain_expr(less), expr, text)

    def test_no_blank_that_is_not_told(self):
        for expr in ordinary(303, 150):
            text = expr_text(expr)
            self.assertEqual(text, text.strip(" "))
            self.assertNotIn("  ", text)
            for signs in ("( ", " )", " ,", " ~", " ^"):
                self.assertNotIn(signs, text)
            self.assertNotRegex(text, r"\b(low|high|as|com) \(")
            self.assertEqual(text.count(","), text.count(", "))


class TestRead(ExprCase):
    def test_by_hand(self):
        for text, expr in READ.items():
            self.assertEqual(self.read(text), expr, text)

    def test_brackets_and_blanks_more(self):
        chance = Random(304)
        for expr in ordinary(305, 500) + list(WRITTEN.values()):
            for _ in range(3):
                text = loose_text(chance, expr)
                self.assertEqual(self.read(text), expr, text)
                self.assertEqual(self.read("  " + text + " "), expr, text)

    def test_from_the_left(self):
        expr = A
        for many in range(2, 31):
            expr = ("then", expr, A)
            self.assertEqual(self.read("a " * many), expr)

    def test_names(self):
        names = list(NAMES) + ["abcdef", "onetwo", "lowhig", "highas", "as" * 3, "comcom", "o", "on", "lo", "hig", "co",
                               "oneone", "lowlow", "ass", "com" + "a", "mone", "mlow"]
        for name in names:
            self.assertEqual(self.read(name), ("name", name))
            self.assertEqual(self.read(f"{name}({name})"), ("then", ("name", name), ("name", name)))
            self.assertEqual(expr_text(("name", name)), name)

    def test_taken_words_are_no_names(self):
        for word in WORDS[1:]:
            self.refused(word)
            self.refused(f"{word} a")
            self.refused(f"a {word}")

    def test_several_behind_one_another(self):
        wanted = A
        text = "a"
        for k in range(9):
            wanted, text = (("back", wanted), text + "~") if k % 2 else (("power", wanted, k), text + f"^{k}")
            self.assertEqual(self.read(text), wanted)
            self.assertEqual(self.read(text.replace("a", "(a)").replace("~", " ~ ")), wanted)

    def test_forty_brackets_within_one_another(self):
        self.assertEqual(self.read("(" * 40 + "a" + ")" * 40), A)
        self.assertEqual(self.read("( " * 40 + "a b" + " )" * 40), ("then", A, B))
        self.refused("(" * 40 + "a" + ")" * 39)
        self.refused("(" * 39 + "a" + ")" * 40)
        expr = A
        text = "a"
        for k in range(40):
            expr, text = (("low", expr), f"low({text})") if k % 2 else (("as", B, expr), f"as(b, {text})")
        self.assertEqual(self.read(text), expr)
        self.assertEqual(expr_text(expr), text)

    def test_long_texts(self):
        self.assertEqual(self.read(" " * 1999 + "a"), A)
        self.assertEqual(self.read("a" + " " * 1999), A)
        self.refused(" " * 2000)


class TestNoText(ExprCase):
    def test_by_hand(self):
        for text in REFUSED:
            self.refused(text)

    def test_with_blanks_around(self):
        for text in REFUSED:
            self.refused(" " + text)
            self.refused(text + "  ")

    def test_any_other_sign(self):
        others = [chr(code) for code in range(33, 127) if not chr(code).isalnum() and chr(code) not in "%^~(),"]
        others += [chr(code) for code in range(65, 91)] + ["\n"]
        for sign in others:
            for text in ("", "a", "a b", "low(a)", "as(a, b)", "a^2", "a~"):
                for at in range(len(text) + 1):
                    if text[at - 1:at] != "^" or sign != "-":
                        self.refused(text[:at] + sign + text[at:])

    def test_any_signs_against_a_plain_reading(self):
        chance = Random(306)
        pieces = ["a", "b", "m", "one", "low", "as", "com", "high", "m3", "^2", "^-1", "^0", "~", "(", "(", ")", ")",
                  ",", " ", " ", "0", "1", "^", "-", "low(", "as(", "abcde"]
        seen = {True: 0, False: 0}
        for _ in range(30000):
            text = "".join(chance.choice(pieces) for _ in range(chance.randint(0, 8)))
            expr = plain_expr(text)
            seen[expr is None] += 1
            if expr is None:
                self.refused(text)
            else:
                self.assertEqual(self.read(text), expr, text)
        self.assertGreater(min(seen.values()), 1000)

    def test_one_sign_changed(self):
        chance = Random(307)
        for expr in ordinary(308, 150):
            text = expr_text(expr)
            for _ in range(20):
                at = chance.randrange(len(text))
                sign = chance.choice(["", "(", ")", ",", " ", "~", "^", "-", "a", "1", "0"])
                other = text[:at] + sign + text[at + chance.randint(0, 1):]
                wanted = plain_expr(other)
                if wanted is None:
                    self.refused(other)
                else:
                    self.assertEqual(self.read(other), wanted, other)


class TestSteadiness(ExprCase):
    def test_same_answers_behind_others(self):
        exprs = ordinary(309, 60)
        before = copied(exprs)
        texts = [expr_text(expr) for expr in exprs]
        for text in ("", "low", "a)"):
            self.refused(text)
        self.assertEqual([read_expr(text) for text in reversed(texts)], exprs[::-1])
        self.assertEqual([expr_text(expr) for expr in reversed(exprs)], texts[::-1])
        self.assertEqual(exprs, before)


if __name__ == "__main__":
    unittest.main()
