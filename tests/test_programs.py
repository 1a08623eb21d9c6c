"""Programs, weights and the maps of expressions, promises 18 and 19."""

import unittest
from random import Random

from halvewright.errors import NoName, NoText, TooGreat, Twice
from halvewright.exprread import read_expr
from halvewright.maps import back, high, low, power, then, trimmed
from halvewright.programs import map_of, maps_of, program_text, read_program, weight
from halvewright.rows import numbered
from plainexprs import NAMES, any_expr, loose_text, names_in, plain_text, plain_weight, ran
from samples import (
    A_MOVE, B_MOVE, ONE, copied, corners, is_map, is_number, led, left_chain, needless_places, parted, right_chain,
    some_maps,
)

A, B, C = ("name", "a"), ("name", "b"), ("name", "c")
LETTERS = "abcdefghijklmnopqrst"


def some_programs(seed, how_many, parts, greatest):
    """Programs whose names are there ahead."""
    chance = Random(seed)
    found = []
    for _ in range(how_many):
        rows = []
        for letter in LETTERS[:chance.randint(0, 20)]:
            names = [name for name, _ in rows]
            rows.append((letter, any_expr(chance, chance.randint(1, parts), 6, names, greatest)))
        found.append(tuple(rows))
    return found


def some_names(seed, most=8):
    return {name: trimmed(mapped) for name, mapped in zip(NAMES, some_maps(seed, len(NAMES), most))}


def weights_of(names):
    return {name: len(parted(mapped[0])) - 1 for name, mapped in names.items()}


def chain_map(leaves):
    """A trimmed map of so many leaves."""
    return trimmed((left_chain(leaves - 1), right_chain(leaves - 1)))


class ProgramCase(unittest.TestCase):
    def refused(self, kind, field, ask, *asked):
        with self.assertRaises(kind, msg=repr(asked)) as caught:
            ask(*asked)
        value = getattr(caught.exception, field)
        self.assertIs(type(value), str if field == "name" else int)
        return value

    def check_told(self, mapped):
        self.assertTrue(is_map(mapped))
        self.assertEqual(needless_places(mapped), [])


class TestReadProgram(ProgramCase):
    def test_by_hand(self):
        wanted = {
            "": (),
            "a = one": (("a", ("one",)),),
            "a = m0\nb = high(a)": (("a", ("move", 0)), ("b", ("high", A))),
            "abcdef = a b (c a)": (("abcdef", ("then", ("then", A, B), ("then", C, A))),),
            "a = a\na = a": (("a", A), ("a", A)),
            "m = m999^-999\nones = as(m, lowly)": (
                ("m", ("power", ("move", 999), -999)), ("ones", ("as", ("name", "m"), ("name", "lowly")))
            ),
        }
        for text, program in wanted.items():
            told = read_program(text)
            self.assertIs(type(told), tuple)
            self.assertTrue(all(type(row) is tuple for row in told))
            self.assertEqual(told, program)
            self.assertEqual(program_text(program), text)

    def test_texts_are_read_back(self):
        for program in some_programs(401, 60, 12, 999):
            text = program_text(program)
            self.assertIs(type(text), str)
            self.assertEqual(text, "\n".join(name + " = " + plain_text(expr) for name, expr in program))
            self.assertEqual(read_program(text), program)

    def test_one_to_twenty_rows(self):
        for many in range(1, 21):
            program = tuple((letter, ("move", k)) for k, letter in enumerate(LETTERS[:many]))
            self.assertEqual(program_text(program).count("\n"), many - 1)
            self.assertEqual(read_program(program_text(program)), program)

    def test_blanks(self):
        for text in ("a  = one", "a =  one", "a   =   one", "a = one  ", "a  =  ( one ) "):
            self.assertEqual(read_program(text), (("a", ("one",)),))
            self.assertEqual(read_program(text + "\n" + text), (("a", ("one",)),) * 2)
        chance = Random(402)
        for program in some_programs(403, 30, 12, 999):
            text = "\n".join(
                name + " " * chance.randint(1, 3) + "=" + " " * chance.randint(1, 3) + loose_text(chance, expr)
                + " " * chance.randint(0, 3)
                for name, expr in program
            )
            self.assertEqual(read_program(text), program)

    def test_rows_that_are_none(self):
        wrong = [
            "", " ", "one", "a", "a =", "a = ", "a =  ", "= one", " = one", "a one", "a=one", "a =one", "a= one",
            " a = one", "  a = one", "A = one", "a1 = one", "m3 = one", "one = one", "low = one", "high = one",
            "as = one", "com = one", "abcdefg = one", "a b = one", "a = low", "a = ()", "a = m1000", "a = b = one",
            "a == one", "a = = one", "a = one =", "a = a,", "a : one", "3 = one", "(a) = one", "a~ = one", "a\t= one",
            "a = one;", "a = one one)", "=", " = ", "==",
        ]
        for row in wrong:
            if row != "":
                self.assertEqual(self.refused(NoText, "at", read_program, row), 0)
            for at in range(4):
                rows = ["b = one", "c = b", "d = m3"]
                rows.insert(at, row)
                self.assertEqual(self.refused(NoText, "at", read_program, "\n".join(rows)), at, row)

    def test_first_wrong_row(self):
        self.assertEqual(self.refused(NoText, "at", read_program, "a = one\nb\nc"), 1)
        self.assertEqual(self.refused(NoText, "at", read_program, "\n"), 0)
        self.assertEqual(self.refused(NoText, "at", read_program, "\na = one"), 0)
        self.assertEqual(self.refused(NoText, "at", read_program, "a = one\n"), 1)
        self.assertEqual(self.refused(NoText, "at", read_program, "a = one\n\nb = one"), 1)
        self.assertEqual(self.refused(NoText, "at", read_program, "a = one\nb = one\n"), 2)
        self.assertEqual(self.refused(NoText, "at", read_program, "a = as(one,\none)"), 0)
        self.assertEqual(self.refused(NoText, "at", read_program, "a\n= one"), 0)
        rows = ["a = one"] * 19
        self.assertEqual(self.refused(NoText, "at", read_program, "\n".join(rows + ["a = on3"])), 19)


class TestMapsOf(ProgramCase):
    def test_by_hand(self):
        program = read_program("z = m0\nb = high(z)\na = z b~\nc = as(z, b)\nd = com(z, b)\ne = z^0\nf = low(z^-2)")
        told = maps_of(program)
        self.assertIs(type(told), dict)
        self.assertEqual(list(told), ["z", "b", "a", "c", "d", "e", "f"])
        way = {letter: back(mapped) for letter, mapped in (("z", A_MOVE), ("b", B_MOVE))}
        self.assertEqual(told, {
            "z": A_MOVE, "b": B_MOVE, "a": then(A_MOVE, way["b"]), "c": then(then(way["b"], A_MOVE), B_MOVE),
            "d": then(then(then(A_MOVE, B_MOVE), way["z"]), way["b"]), "e": ONE, "f": low(then(way["z"], way["z"])),
        })

    def test_without_rows(self):
        self.assertEqual(maps_of(()), {})

    def test_row_by_row(self):
        seen = {TooGreat: 0, dict: 0}
        for program in some_programs(404, 80, 10, 9):
            names = {}
            wanted = None
            for at, (name, expr) in enumerate(program):
                if plain_weight(expr, weights_of(names)) > 99:
                    wanted = at
                    break
                names[name] = map_of(expr, names)
            if wanted is None:
                told = maps_of(program)
                self.assertEqual(told, names)
                self.assertEqual(list(told), [name for name, _ in program])
            else:
                self.assertEqual(self.refused(TooGreat, "row", maps_of, program), wanted)
            seen[dict if wanted is None else TooGreat] += 1
        self.assertGreater(min(seen.values()), 9)

    def test_point_by_point(self):
        for program in some_programs(405, 15, 8, 3):
            try:
                told = maps_of(program)
            except TooGreat:
                continue
            for name, expr in program:
                self.check_told(told[name])
                for number in corners(told[name]):
                    self.assertEqual(led(told[name], number), ran(expr, told, number))

    def test_twice(self):
        wanted = {
            "a = one\na = one": "a", "a = one\nb = one\nb = a\na = one": "b", "x = m0\ny = x\nx = y": "x",
            "b = m0\na = m1\na = q": "a", "b = m0\nb = m98": "b", "b = m0\nb = b": "b",
        }
        for text, name in wanted.items():
            self.assertEqual(self.refused(Twice, "name", maps_of, read_program(text)), name)

    def test_no_name(self):
        wanted = {
            "a = b": "b", "a = a": "a", "a = one\nb = a c b": "c", "a = one\nb = a b c": "b",
            "a = one\nb = c\nc = one": "c", "a = as(x, y)": "x", "a = as(one, y)": "y", "a = com(low(y), x)": "y",
            "a = (x y)^2 z": "x", "a = m0 (m1 y) x": "y", "a = m98 x": "x", "a = x^0": "x", "a = m0\nb = a a a c~": "c",
            "a = high(low(com(one, as(one, q))))": "q",
        }
        for text, name in wanted.items():
            self.assertEqual(self.refused(NoName, "name", maps_of, read_program(text)), name)

    def test_first_name_from_the_left(self):
        chance = Random(406)
        for _ in range(200):
            expr = any_expr(chance, 30, 10, NAMES, 3)
            there = dict.fromkeys(chance.sample(NAMES, 7), ONE)
            lacking = [name for name in names_in(expr) if name not in there]
            program = tuple((name, ("one",)) for name in there) + (("q", expr),)
            if lacking:
                self.assertEqual(self.refused(NoName, "name", map_of, expr, there), lacking[0])
                self.assertEqual(self.refused(NoName, "name", maps_of, program), lacking[0])

    def test_too_great(self):
        wanted = {
            "a = m98": 0, "a = m97\nb = a one\nc = a m0": 2, "a = m0^49\nb = a\nc = m0^50": 2, "a = one\nb = m999": 1,
            "a = m98\nb = x": 0, "a = m98\na = one": 0, "a = one\nb = m98^0": 1, "a = m0^49\nb = com(a, one)": 1,
        }
        for text, row in wanted.items():
            self.assertEqual(self.refused(TooGreat, "row", maps_of, read_program(text)), row, text)

    def test_order_of_refusals(self):
        self.assertEqual(self.refused(Twice, "name", maps_of, read_program("a = one\na = q m98")), "a")
        self.assertEqual(self.refused(NoName, "name", maps_of, read_program("a = one\nb = m98 q")), "q")
        self.assertEqual(self.refused(NoName, "name", maps_of, read_program("a = q\na = one")), "q")
        self.assertEqual(self.refused(TooGreat, "row", maps_of, read_program("a = m98\na = q")), 0)

    def test_weight_of_a_name_is_that_of_its_map(self):
        # As their rows weigh, all behind the first would be refused.
        text = "a = m40 m40~ m0\nb = a^48\nc = b b~\nd = c^999"
        told = maps_of(read_program(text))
        self.assertEqual(list(told.values()), [A_MOVE, power(A_MOVE, 48), ONE, ONE])

    def test_the_dict_is_the_askers_own(self):
        program = read_program("a = m0\nb = high(a)")
        first = maps_of(program)
        first.clear()
        self.assertEqual(list(maps_of(program).items()), [("a", A_MOVE), ("b", B_MOVE)])
        second = maps_of(program)
        second["a"] = ONE
        second["q"] = ONE
        self.assertEqual(list(maps_of(program).items()), [("a", A_MOVE), ("b", B_MOVE)])


class TestWeight(ProgramCase):
    def test_by_hand(self):
        names = {"a": 5, "b": 7, "c": 0}
        wanted = {
            "one": 0, "m0": 2, "m1": 3, "m999": 1001, "a": 5, "c": 0, "a b": 12, "a b m0": 14, "a~": 5, "m3~~": 5,
            "a^3": 15, "a^-3": 15, "a^1": 5, "a^-1": 5, "a^0": 5, "(a b)^0": 12, "a^2^3": 30, "one^999": 0, "a^0^4": 20,
            "low(a)": 6, "high(a)": 6, "low(one)": 1, "high(low(m0))": 4, "as(a, b)": 19, "as(b, a)": 17,
            "com(a, b)": 24, "com(one, one)": 0, "as(one, m0)": 4, "as(m0, one)": 2, "com(m0, one)": 4,
            "com(a, low(b))^2": 52, "m999^-999": 999999,
        }
        for text, many in wanted.items():
            told = weight(read_expr(text), names)
            self.assertTrue(is_number(told))
            self.assertEqual(told, many, text)

    def test_against_a_plain_reading(self):
        chance = Random(407)
        names = {name: chance.randint(0, 99) for name in NAMES}
        before = dict(names)
        for _ in range(500):
            expr = any_expr(chance, chance.randint(1, 30), 10)
            self.assertEqual(weight(expr, names), plain_weight(expr, names))
        self.assertEqual(names, before)


class TestMapOf(ProgramCase):
    def test_each_kind(self):
        names = some_names(408)
        a, b = names["a"], names["b"]
        wanted = {
            "one": ONE, "m0": A_MOVE, "m1": B_MOVE, "m9": numbered(9), "m97": numbered(97), "a": a, "a b": then(a, b),
            "b a": then(b, a), "a~": back(a), "a^2": then(a, a), "a^-2": then(back(a), back(a)), "a^0": ONE,
            "a^1": a, "low(a)": low(a), "high(a)": high(a), "as(a, b)": then(then(back(b), a), b),
            "com(a, b)": then(then(then(a, b), back(a)), back(b)), "as(m0, m1)": then(then(back(B_MOVE), A_MOVE), B_MOVE),
        }
        for text, mapped in wanted.items():
            self.assertEqual(map_of(read_expr(text), names), mapped, text)

    def test_point_by_point(self):
        chance = Random(409)
        names = some_names(410, 4)
        weights = weights_of(names)
        told = 0
        while told < 150:
            expr = any_expr(chance, chance.randint(1, 12), 6, NAMES, 4)
            many = plain_weight(expr, weights)
            if many > 99:
                self.assertEqual(self.refused(TooGreat, "row", map_of, expr, names), 0)
                continue
            mapped = map_of(expr, names)
            self.check_told(mapped)
            self.assertLessEqual(len(parted(mapped[0])), many + 1)
            for number in corners(mapped)[::3]:
                self.assertEqual(led(mapped, number), ran(expr, names, number))
            told += 1

    def test_thirty_parts(self):
        chance = Random(411)
        names = {"a": A_MOVE, "b": ONE, "c": B_MOVE}
        told = 0
        while told < 20:
            expr = any_expr(chance, 30, 10, list(names), 2)
            many = plain_weight(expr, weights_of(names))
            if 40 <= many <= 99:
                mapped = map_of(expr, names)
                self.check_told(mapped)
                self.assertLessEqual(len(parted(mapped[0])), many + 1)
                for number in corners(mapped)[::9]:
                    self.assertEqual(led(mapped, number), ran(expr, names, number))
                told += 1

    def test_no_name_then_too_great(self):
        self.assertEqual(self.refused(NoName, "name", map_of, A, {}), "a")
        self.assertEqual(self.refused(NoName, "name", map_of, read_expr("a b"), {"b": ONE}), "a")
        self.assertEqual(self.refused(NoName, "name", map_of, read_expr("m98 b a"), {"a": ONE}), "b")
        self.assertEqual(self.refused(TooGreat, "row", map_of, read_expr("m98"), {"a": ONE}), 0)

    def test_at_99_let_by_and_at_100_refused(self):
        names = {"a": A_MOVE, "h": chain_map(100), "k": chain_map(99), "half": chain_map(50)}
        self.assertEqual(weights_of(names), {"a": 2, "h": 99, "k": 98, "half": 49})
        for text in ("m97", "h", "h~", "h^0", "h one", "low(k)", "high(k)", "k low(one)", "a^49 low(one)", "a^-49",
                     "as(low(k), one)", "as(low(one), half)", "half^2 low(one)", "half half low(one)",
                     "com(half, one) low(one)", "com(one, half) low(one)", "(k low(one))^0", "one^999"):
            expr = read_expr(text)
            self.assertIn(plain_weight(expr, weights_of(names)), (98, 99, 0))
            mapped = map_of(expr, names)
            self.check_told(mapped)
            for number in corners(mapped)[::20]:
                self.assertEqual(led(mapped, number), ran(expr, names, number))
        for text in ("m98", "h low(one)", "low(h)", "high(h)", "m97 low(one)", "a^50", "a^-50", "as(a, half)",
                     "com(half, low(one))", "com(low(one), half)", "half^2 a", "low(low(k))", "(h low(one))~", "m98^0"):
            expr = read_expr(text)
            self.assertEqual(plain_weight(expr, weights_of(names)), 100)
            self.assertEqual(self.refused(TooGreat, "row", map_of, expr, names), 0)
        for text in ("m999^999", "h^999", "com(h, h)", "((h^999)^999)^999"):
            self.assertEqual(self.refused(TooGreat, "row", map_of, read_expr(text), names), 0)

    def test_the_dict_stays(self):
        names = some_names(412)
        before = {name: copied(mapped) for name, mapped in names.items()}
        chance = Random(413)
        exprs = [any_expr(chance, 6, 4, NAMES, 2) for _ in range(40)] + [("name", "q")]
        for expr in exprs:
            try:
                map_of(expr, names)
            except (NoName, TooGreat):
                pass
        self.assertEqual(names, before)
        self.assertEqual(list(names), list(before))
        expr = read_expr("a b")
        first = map_of(expr, names)
        names["a"] = names["b"] = ONE
        self.assertEqual(map_of(expr, before), first)
        self.assertEqual(map_of(expr, names), ONE)


class TestSteadiness(ProgramCase):
    def test_same_answers_behind_others(self):
        programs = some_programs(414, 40, 8, 8)
        before = copied(programs)

        def ask(program):
            try:
                return list(maps_of(program).items())
            except TooGreat as told:
                return told.row

        first = [ask(program) for program in programs]
        texts = [program_text(program) for program in programs]
        self.refused(NoText, "at", read_program, "a")
        self.refused(NoName, "name", maps_of, (("a", A),))
        self.assertEqual([ask(program) for program in reversed(programs)], first[::-1])
        self.assertEqual([read_program(text) for text in reversed(texts)], programs[::-1])
        self.assertEqual(programs, before)


if __name__ == "__main__":
    unittest.main()
