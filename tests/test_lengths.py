"""How few moves make a map, promise 24."""

import unittest
from random import Random

from halvewright.lengths import length, shortest
from halvewright.maps import back, then, trimmed
from halvewright.rows import map_of_row, move, numbered
from plainkinds import plain_kinds, plain_worth
from samples import (
    MOVES, ONE, PAIR, any_tree, chains, copied, corners, cut_maps, cut_more, full_tree, is_number, led, left_chain,
    plainly_trimmed, right_chain, small_maps, some_maps, some_rows, way_back,
)


def plain_length(mapped):
    one, other = plainly_trimmed(mapped)
    return sum(plain_worth(kind, partner) for kind, partner in zip(plain_kinds(one), plain_kinds(other)))


def searched(most):
    """Each map of at most so many moves with how few make it, by going through all rows."""
    found = {ONE: 0}
    last = [ONE]
    for many in range(1, most + 1):
        following = []
        for mapped in last:
            for letter in "abAB":
                whole = then(mapped, move(letter))
                if whole not in found:
                    found[whole] = many
                    following.append(whole)
        last = following
    return found


def great_maps(seed, how_many, many=60):
    chance = Random(seed)
    return [(any_tree(chance, many), any_tree(chance, many)) for _ in range(how_many)]


def chain_maps(joints):
    return [(one, other) for one in chains(joints) for other in chains(joints)]


class LengthCase(unittest.TestCase):
    @classmethod
    def setUpClass(cls):
        cls.few = searched(7)


class TestLength(LengthCase):
    def check(self, mapped):
        told = length(mapped)
        self.assertTrue(is_number(told))
        self.assertEqual(told, plain_length(mapped))
        return told

    def test_by_hand(self):
        wanted = {
            "": 0, "a": 1, "b": 1, "A": 1, "B": 1, "aa": 2, "ab": 2, "ba": 2, "aA": 0, "aB": 2, "aba": 3, "Aba": 3,
            "AAbaa": 5, "abAB": 4,
        }
        for row, many in wanted.items():
            self.assertEqual(self.check(map_of_row(row)), many, row)
        self.assertEqual(length((left_chain(40), right_chain(40))), 39)

    def test_of_the_one(self):
        for mapped in (ONE, (PAIR, PAIR), (full_tree(4), full_tree(4)), (left_chain(40), left_chain(40))):
            self.assertEqual(self.check(mapped), 0)

    def test_against_a_search_through_all_rows(self):
        self.assertGreater(len(self.few), 3000)
        for mapped, many in self.few.items():
            self.assertEqual(length(mapped), many)

    def test_no_row_is_shorter(self):
        for row in some_rows(541, 60, 0, 60):
            told = self.check(map_of_row(row))
            self.assertLessEqual(told, len(row))
            self.assertEqual(told & 1, len(row) & 1)

    def test_some_maps(self):
        for mapped in small_maps(5) + some_maps(542, 40) + great_maps(543, 10) + chain_maps(40):
            self.check(mapped)

    def test_cut_more(self):
        for mapped in cut_maps(544, 60):
            self.assertEqual(self.check(mapped), length(trimmed(mapped)))

    def test_of_the_back_the_same(self):
        for mapped in some_maps(545, 60) + great_maps(546, 10) + chain_maps(40) + cut_maps(547, 20):
            self.assertEqual(length(back(mapped)), length(mapped))

    def test_each_move_behind_changes_it_by_just_one(self):
        found = small_maps(5) + some_maps(548, 60) + great_maps(549, 15) + chain_maps(40) + cut_maps(550, 20)
        for mapped in found:
            many = length(mapped)
            for letter in "abAB":
                self.assertEqual(abs(length(then(mapped, move(letter))) - many), 1)
                self.assertEqual(abs(length(then(move(letter), mapped)) - many), 1)

    def test_numbered_moves(self):
        for n in range(1, 31):
            self.assertEqual(self.check(numbered(n)), 2 * n - 1)


class TestShortest(LengthCase):
    def check(self, mapped):
        row = shortest(mapped)
        self.assertIs(type(row), str)
        self.assertEqual(set(row) - set("abAB"), set())
        self.assertEqual(len(row), plain_length(mapped))
        self.assertEqual(map_of_row(row), plainly_trimmed(mapped))
        self.assertEqual(shortest(mapped), row)
        return row

    def test_of_the_one(self):
        for mapped in (ONE, (PAIR, PAIR), (full_tree(4), full_tree(4))):
            self.assertEqual(self.check(mapped), "")

    def test_single_moves(self):
        for letter in "abAB":
            self.assertEqual(self.check(MOVES[letter]), letter)

    def test_where_just_one_row_is_right(self):
        for row in ("a" * 30, "A" * 30, "b" * 9, "ab", "ba", "abA", "bab", "BA"):
            self.assertEqual(self.check(map_of_row(row)), row)

    def test_few_moves(self):
        for mapped, many in self.few.items():
            row = shortest(mapped)
            self.assertEqual(len(row), many)
            self.assertEqual(map_of_row(row), mapped)

    def test_point_by_point(self):
        for mapped in small_maps(4) + some_maps(551, 10):
            row = self.check(mapped)
            for number in corners(mapped):
                goal = number
                for letter in row:
                    goal = led(MOVES[letter], goal)
                self.assertEqual(led(mapped, number), goal)

    def test_great_maps(self):
        for mapped in some_maps(552, 10, 60) + great_maps(553, 5) + chain_maps(40):
            self.check(mapped)

    def test_hundred_leaves(self):
        for mapped in great_maps(554, 1, 100) + [(right_chain(99), left_chain(99))]:
            self.check(mapped)

    def test_cut_more(self):
        chance = Random(555)
        for mapped in some_maps(556, 20) + [ONE]:
            self.assertEqual(self.check(cut_more(chance, mapped, 4)), shortest(mapped))

    def test_rows_of_60_letters(self):
        for row in some_rows(557, 5, 60, 60):
            self.assertLessEqual(len(self.check(map_of_row(row))), 60)
            self.assertEqual(self.check(map_of_row(row + way_back(row))), "")


class TestSteadiness(unittest.TestCase):
    def test_same_answers_behind_others(self):
        found = some_maps(558, 15) + cut_maps(559, 15)
        before = copied(found)
        first = [(length(mapped), shortest(mapped)) for mapped in found]
        again = [(length(mapped), shortest(mapped)) for mapped in reversed(found)]
        self.assertEqual(again[::-1], first)
        self.assertEqual(found, before)


if __name__ == "__main__":
    unittest.main()
