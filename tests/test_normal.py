"""Normal rows and their texts, promises 13 to 15."""

import re
import unittest
from itertools import product
from random import Random

from halvewright.errors import NoText
from halvewright.maps import back, then, trimmed
from halvewright.normal import map_of_normal, normal_of, normal_text, read_normal, settled
from halvewright.rows import map_of_row, move, numbered
from samples import (
    A_MOVE, ONE, PAIR, chains, copied, corners, cut_maps, full_tree, is_map, is_number, led, left_chain, moved,
    needless_places, plainly_trimmed, right_chain, small_maps, some_maps, some_rows,
)

EMPTY = ((), ())


def walked(tree, way=""):
    """For each leaf the way to it from the top, L and R."""
    if tree == ():
        return [way]
    return walked(tree[0], way + "L") + walked(tree[1], way + "R")


def plain_steps(way):
    """The left steps of a leaf, joint by joint as the document tells them."""
    steps = 0
    while way.endswith("L"):
        way = way[:-1]
        if way == "R" * len(way):
            break
        steps += 1
    return steps


def plain_normal(mapped):
    sides = []
    for tree in plainly_trimmed(mapped):
        steps = [plain_steps(way) for way in walked(tree)]
        sides.append(tuple((k, many) for k, many in enumerate(steps) if many))
    return tuple(sides)


def keeps_rule(normal):
    up, down = (dict(side) for side in normal)
    return all(k + 1 in up or k + 1 in down for k in set(up) & set(down))


def moves_of(normal):
    """The numbered moves, forth and back, that a normal row tells."""
    ups, downs = normal
    forth = [(number, 1) for number, times in ups for _ in range(times)]
    return forth + [(number, -1) for number, times in reversed(downs) for _ in range(times)]


def led_by(moves, number):
    for n, way in moves:
        number = moved(n, number, way == 1)
    return number


def any_normal(chance, numbers, greatest, times):
    """A normal row that keeps its rule."""
    while True:
        sides = [
            {n: chance.randint(1, times) for n in chance.sample(range(greatest + 1), chance.choice(numbers))}
            for _ in range(2)
        ]
        normal = tuple(tuple(sorted(side.items())) for side in sides)
        if keeps_rule(normal):
            return normal


def great_normals(seed, how_many):
    """Normal rows with 12 numbers a side from 0 to 30, each 1 to 9 times."""
    chance = Random(seed)
    found = []
    while len(found) < how_many:
        up = sorted(chance.sample(range(31), 12))
        down = [n for n in range(31) if n not in up or {n + 1, n + 2} & set(up)]
        down = sorted(chance.sample(down, 12))
        normal = tuple(tuple((n, chance.randint(1, 9)) for n in side) for side in (up, down))
        if keeps_rule(normal):
            found.append(normal)
    return found


def some_normals(seed, how_many):
    chance = Random(seed)
    return [any_normal(chance, range(5), 8, 3) for _ in range(how_many)]


def some_moves(seed, how_many, most=30, greatest=30):
    chance = Random(seed)
    return [
        [(chance.randint(0, greatest), chance.choice((1, -1))) for _ in range(chance.randint(0, most))]
        for _ in range(how_many)
    ]


class NormalCase(unittest.TestCase):
    def check_told(self, normal):
        """A normal row that is told."""
        self.assertIs(type(normal), tuple)
        self.assertEqual(len(normal), 2)
        for side in normal:
            self.assertIs(type(side), tuple)
            for pair in side:
                self.assertIs(type(pair), tuple)
                self.assertTrue(len(pair) == 2 and all(is_number(part) for part in pair))
            numbers = [number for number, times in side]
            self.assertEqual(numbers, sorted(set(numbers)))
            self.assertTrue(all(number >= 0 and times >= 1 for number, times in side))
        self.assertTrue(keeps_rule(normal))

    def check_points(self, mapped, moves):
        self.assertTrue(is_map(mapped))
        self.assertEqual(needless_places(mapped), [])
        for number in corners(mapped):
            self.assertEqual(led(mapped, number), led_by(moves, number))


class TestNormalOf(NormalCase):
    def check(self, mapped):
        normal = normal_of(mapped)
        self.check_told(normal)
        self.assertEqual(normal, plain_normal(mapped))
        self.assertEqual(map_of_normal(normal), trimmed(mapped))
        return normal

    def test_by_hand(self):
        wanted = {
            "": EMPTY, "a": (((0, 1),), ()), "A": ((), ((0, 1),)), "b": (((1, 1),), ()), "B": ((), ((1, 1),)),
            "aa": (((0, 2),), ()), "ab": (((0, 1), (1, 1)), ()), "ba": (((0, 1), (2, 1)), ()),
            "Aba": (((2, 1),), ()), "aBA": (((0, 1),), ((0, 1), (1, 1))), "abA": (((0, 1), (1, 1)), ((0, 1),)),
            "AB": ((), ((0, 1), (2, 1))), "BA": ((), ((0, 1), (1, 1))),
        }
        for row, normal in wanted.items():
            self.assertEqual(normal_of(map_of_row(row)), normal, row)

    def test_the_one(self):
        for mapped in (ONE, (PAIR, PAIR), (full_tree(3), full_tree(3)), (left_chain(40), left_chain(40))):
            self.assertEqual(normal_of(mapped), EMPTY)

    def test_numbered_moves(self):
        for n in range(31):
            self.assertEqual(normal_of(numbered(n)), (((n, 1),), ()))
            self.assertEqual(normal_of(back(numbered(n))), ((), ((n, 1),)))

    def test_small_maps_have_unlike_rows(self):
        maps = {mapped for mapped in small_maps(5) if not needless_places(mapped)}
        self.assertEqual(len({self.check(mapped) for mapped in maps}), len(maps))

    def test_great_maps(self):
        for mapped in some_maps(201, 20, 60) + [(one, other) for one in chains(40) for other in chains(40)]:
            self.check(mapped)

    def test_chains_by_hand(self):
        self.assertEqual(normal_of((left_chain(40), right_chain(40))), (((0, 39),), ()))
        self.assertEqual(normal_of((right_chain(40), left_chain(40))), ((), ((0, 39),)))

    def test_cut_more(self):
        for mapped in cut_maps(202, 40):
            self.assertEqual(self.check(mapped), normal_of(trimmed(mapped)))

    def test_it_tells_the_map_point_by_point(self):
        for mapped in small_maps(4) + some_maps(203, 20):
            self.check_points(trimmed(mapped), moves_of(normal_of(mapped)))

    def test_way_back_turns_the_sides(self):
        for mapped in some_maps(204, 30) + cut_maps(205, 20):
            self.assertEqual(normal_of(back(mapped)), normal_of(mapped)[::-1])


class TestMapOfNormal(NormalCase):
    def test_by_hand(self):
        self.assertEqual(map_of_normal(EMPTY), ONE)
        self.assertEqual(map_of_normal((((0, 1),), ())), A_MOVE)
        self.assertEqual(map_of_normal(((), ((0, 1),))), move("A"))
        self.assertEqual(map_of_normal((((0, 2),), ())), map_of_row("aa"))
        self.assertEqual(map_of_normal((((0, 1), (1, 2)), ((0, 1), (3, 1)))), map_of_row("abb" + "AABaa" + "A"))
        self.assertEqual(map_of_normal((((0, 39),), ())), (left_chain(40), right_chain(40)))

    def test_numbered_moves(self):
        for n in range(31):
            self.assertEqual(map_of_normal((((n, 1),), ())), numbered(n))
            self.assertEqual(map_of_normal(((), ((n, 1),))), back(numbered(n)))

    def test_point_by_point_and_read_back(self):
        for normal in some_normals(206, 60):
            mapped = map_of_normal(normal)
            self.check_points(mapped, moves_of(normal))
            self.assertEqual(normal_of(mapped), normal)

    def test_all_small_rows(self):
        sides = [
            tuple((n, times) for n, times in enumerate(many) if times) for many in product(range(3), repeat=3)
        ]
        for normal in filter(keeps_rule, product(sides, repeat=2)):
            mapped = map_of_normal(normal)
            self.check_points(mapped, moves_of(normal))
            self.assertEqual(normal_of(mapped), normal)

    def test_trimmed_where_the_rule_is_not_kept(self):
        self.assertEqual(map_of_normal((((0, 1),), ((0, 1),))), ONE)
        self.assertEqual(map_of_normal((((0, 1), (1, 2)), ((1, 1),))), map_of_row("ab"))

    def test_great_rows(self):
        most = tuple((n, 9) for n in range(19, 31))
        rows = great_normals(207, 20) + [(most, ()), ((), most), (most[:-1], ((0, 9),))]
        for normal in rows:
            mapped = map_of_normal(normal)
            self.assertTrue(is_map(mapped))
            self.assertEqual(needless_places(mapped), [])
            self.assertEqual(normal_of(mapped), normal)

    def test_great_rows_point_by_point(self):
        for normal in great_normals(208, 2):
            mapped = map_of_normal(normal)
            for number in corners(mapped)[::6]:
                self.assertEqual(led(mapped, number), led_by(moves_of(normal), number))


class TestSettled(NormalCase):
    def test_without_moves(self):
        self.assertEqual(settled([]), EMPTY)

    def test_by_hand(self):
        wanted = [
            ([(3, 1)], (((3, 1),), ())), ([(3, -1)], ((), ((3, 1),))),
            ([(2, 1), (0, 1)], (((0, 1), (3, 1)), ())), ([(0, 1), (2, 1)], (((0, 1), (2, 1)), ())),
            ([(0, -1), (2, 1)], (((3, 1),), ((0, 1),))), ([(2, -1), (0, 1)], (((0, 1),), ((3, 1),))),
            ([(0, 1), (5, 1), (0, -1)], (((4, 1),), ())),
            ([(0, 1), (1, 1), (0, -1)], (((0, 1), (1, 1)), ((0, 1),))),
            ([(0, 1), (0, -1)], EMPTY), ([(4, 1), (4, 1), (4, -1)], (((4, 1),), ())),
        ]
        for moves, normal in wanted:
            self.assertEqual(settled(moves), normal, moves)

    def test_point_by_point(self):
        for moves in some_moves(209, 25) + some_moves(210, 25, 30, 4):
            normal = settled(moves)
            self.check_told(normal)
            mapped = map_of_normal(normal)
            for number in corners(mapped):
                self.assertEqual(led(mapped, number), led_by(moves, number))

    def test_one_behind_another(self):
        for moves in some_moves(211, 20):
            whole = ONE
            for number, way in moves:
                whole = then(whole, numbered(number) if way == 1 else back(numbered(number)))
            self.assertEqual(settled(moves), normal_of(whole))

    def test_thirty_pairs(self):
        for moves in ([(30, 1)] * 30, [(0, -1)] * 30, [(n, 1) for n in range(30, 0, -1)]):
            normal = settled(moves)
            self.check_told(normal)
            self.check_points(map_of_normal(normal), moves)
        self.assertEqual(settled([(30, 1)] * 30), (((30, 30),), ()))

    def test_a_list_and_its_way_back(self):
        for moves in some_moves(212, 30, 15):
            way = [(number, -sign) for number, sign in reversed(moves)]
            self.assertEqual(settled(moves + way), EMPTY)
            self.assertEqual(settled(way), settled(moves)[::-1])

    def test_a_lesser_one_and_its_back_around(self):
        for n in range(1, 30):
            for k in range(n):
                self.assertEqual(settled([(k, -1), (n, 1), (k, 1)]), (((n + 1, 1),), ()))
                self.assertEqual(settled([(k, -1), (n, -1), (k, 1)]), ((), ((n + 1, 1),)))

    def test_normal_rows_stay(self):
        for normal in some_normals(213, 30):
            self.assertEqual(settled(moves_of(normal)), normal)

    def test_letters(self):
        for row in some_rows(214, 20, 0, 20):
            moves = [("ab".index(letter.lower()), 1 if letter.islower() else -1) for letter in row]
            self.assertEqual(settled(moves), normal_of(map_of_row(row)))

    def test_the_list_stays(self):
        for moves in some_moves(215, 20):
            before = copied(moves)
            first = settled(moves)
            self.assertEqual(moves, before)
            moves.append((0, 1))
            moves.clear()
            self.assertEqual(settled(before), first)


class TestNormalTexts(NormalCase):
    WANTED = {
        "/": EMPTY,
        "0^2 3 / 1": (((0, 2), (3, 1)), ((1, 1),)),
        "0 /": (((0, 1),), ()),
        "/ 0": ((), ((0, 1),)),
        "0 1^12 / 0^9": (((0, 1), (1, 12)), ((0, 9),)),
        "0 / 0 1": (((0, 1),), ((0, 1), (1, 1))),
        "999^999 /": (((999, 999),), ()),
        "/ 998 999^999": ((), ((998, 1), (999, 999))),
        "10 100 / 99^10 101^100": (((10, 1), (100, 1)), ((99, 10), (101, 100))),
        "5 / 5 6": (((5, 1),), ((5, 1), (6, 1))),
    }

    def test_by_hand(self):
        for text, normal in self.WANTED.items():
            self.assertEqual(normal_text(normal), text)
            self.assertEqual(read_normal(text), normal)

    def test_each_text_is_read_back(self):
        rows = some_normals(216, 100) + great_normals(217, 10)
        rows += [any_normal(Random(seed), range(13), 999, 999) for seed in range(40)]
        for normal in rows:
            text = normal_text(normal)
            self.assertIs(type(text), str)
            told = read_normal(text)
            self.check_told(told)
            self.assertEqual(told, normal)

    def test_each_number_and_times(self):
        for k in range(1000):
            self.assertEqual(read_normal(f"{k} /"), (((k, 1),), ()))
            self.assertEqual(read_normal(f"/ {k}"), ((), ((k, 1),)))
            self.assertEqual(normal_text((((k, 1),), ())), f"{k} /")
        for k in range(2, 1000):
            self.assertEqual(read_normal(f"/ 7^{k}"), ((), ((7, k),)))
            self.assertEqual(normal_text(((), ((7, k),))), f"/ 7^{k}")


WORD = re.compile(r"(0|[1-9][0-9]{0,2})(?:\^([2-9]|[1-9][0-9]{1,2}))?")


def plain_at(text):
    """Where a text shows that it is no normal row's, None where it is one."""
    words = text.split(" ")
    sides, here = {True: [], False: []}, True
    for at, word in enumerate(words):
        if word == "/":
            if not here:
                return at
            here = False
            continue
        found = WORD.fullmatch(word)
        if not found or (sides[here] and sides[here][-1] >= int(found[1])):
            return at
        sides[here].append(int(found[1]))
    stands = set(sides[True]) | set(sides[False])
    fine = all(k + 1 in stands for k in set(sides[True]) & set(sides[False]))
    return len(words) if here or not fine else None


class TestNoText(unittest.TestCase):
    def refused(self, text):
        with self.assertRaises(NoText) as caught:
            read_normal(text)
        self.assertTrue(is_number(caught.exception.at))
        return caught.exception.at

    def test_by_hand(self):
        wanted = {
            "": 0, " ": 0, "0": 1, "0 1": 2, "0^2 3": 2, "x": 0, "a /": 0, "/ a": 1, "0 x / 1": 1,
            "00 /": 0, "01 /": 0, "/ 007": 1, "0^02 /": 0, "0^1 /": 0, "0^0 /": 0, "/ 3^1": 1, "/ 3^0": 1,
            "1000 /": 0, "/ 1000": 1, "0^1000 /": 0, "0 1^9999 / 1": 1, "0^ /": 0, "^2 /": 0, "^ /": 0, "0^2^2 /": 0,
            "1 0 /": 1, "1 1 /": 1, "0 5 4 6 /": 2, "/ 1 0": 2, "/ 1 1": 2, "0 / 3 3": 3, "0 1^2 1 /": 2,
            "/ /": 1, "0 / 1 /": 3, "//": 0, "0/1": 0, "0 /1": 1, "0/ 1": 0,
            " /": 0, "/ ": 1, " 0 /": 0, "0 / ": 2, "0 / 1 ": 3, "0  /": 1, "0 /  1": 2, "0 ": 1, "0 1  3 /": 2,
            "0 / 0": 3, "0 / 0 2": 4, "0 2 / 0 2 3": 6, "0 1 / 0 1": 5, "0 / 0 2 x": 4, "0 / 0 2 1": 4,
            "999 / 999": 3, "3^2 / 3^2": 3, "0 1 / 1": 4,
            "-1 /": 0, "+1 /": 0, "1.5 /": 0, "0\n/": 0, "0 /\n": 1, "\n": 0, "0^-2 /": 0, "0 ^2 /": 1, "0^ 2 /": 0,
        }
        for text, at in wanted.items():
            self.assertEqual(self.refused(text), at, text)

    def check(self, text):
        at = plain_at(text)
        if at is None:
            self.assertEqual(normal_text(read_normal(text)), text)
        else:
            self.assertEqual(self.refused(text), at, text)
        return at

    def test_any_signs(self):
        chance = Random(218)
        seen = set()
        for _ in range(20000):
            text = "".join(chance.choice("0001123 9  //^^x") for _ in range(chance.randint(0, 9)))
            seen.add(self.check(text))
        self.assertTrue({None, 0, 1, 2, 3} <= seen)

    def test_any_words(self):
        chance = Random(219)
        words = ["/", "/", "0", "1", "2", "3", "4", "0^2", "1^3", "2^10", "5", "6", "00", "1^1", ""]
        seen = set()
        for _ in range(20000):
            text = " ".join(chance.choice(words) for _ in range(chance.randint(1, 5)))
            seen.add(self.check(text))
        self.assertEqual(seen, {None, 0, 1, 2, 3, 4, 5})


class TestSteadiness(NormalCase):
    def test_same_answers_behind_others(self):
        maps = some_maps(220, 15) + cut_maps(221, 15)
        rows = some_normals(222, 20)
        moves = some_moves(223, 20)
        texts = [normal_text(normal) for normal in rows]
        asks = [(normal_of, mapped) for mapped in maps] + [(map_of_normal, normal) for normal in rows]
        asks += [(settled, row) for row in moves] + [(read_normal, text) for text in texts]
        before = copied([asked for _, asked in asks])
        first = [ask(asked) for ask, asked in asks]
        for text in ("", "0 / 0", "1 0 /"):
            with self.assertRaises(NoText):
                read_normal(text)
        self.assertEqual([ask(asked) for ask, asked in reversed(asks)], first[::-1])
        self.assertEqual([asked for _, asked in asks], before)


if __name__ == "__main__":
    unittest.main()
