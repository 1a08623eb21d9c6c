"""Points sent, and how steep maps are, promises 8 and 9."""

import unittest
from fractions import Fraction
from random import Random

from halvewright.maps import back, then
from halvewright.runner import sent, steep
from samples import (
    LEAF, PAIR, chains, corners, cut_more, fraction, is_number, is_point, led, parted, small_maps,
    some_maps, told,
)

ONE = ((), ())
MOVE = ((PAIR, ()), ((), PAIR))
ENDS = ((0, 0), (1, 0))


def maps_to_look_at():
    great = [(one, other) for one in chains(40) for other in chains(40)]
    chance = Random(71)
    more = [cut_more(chance, mapped, 4) for mapped in some_maps(72, 15)]
    return small_maps(4) + some_maps(73, 25) + some_maps(74, 6, 60) + great + more


def deep_points(chance, how_many, most=100):
    found = []
    for _ in range(how_many):
        d = chance.randint(1, most)
        found.append((2 * chance.randrange(2 ** (d - 1)) + 1, d))
    return found


def growth_of(size, long):
    e = 0
    while size * Fraction(2) ** e != long:
        e += 1 if size * Fraction(2) ** e < long else -1
    return e


def plainly_steep(mapped, number):
    """How steep the map is at each side, by what it does to points close by."""
    sides = [None, None]
    for (begin, size), (_, long) in zip(parted(mapped[0]), parted(mapped[1])):
        if begin < number <= begin + size:
            sides[0] = growth_of(size, long)
        if begin <= number < begin + size:
            sides[1] = growth_of(size, long)
    return tuple(sides)


class TestSent(unittest.TestCase):
    def check(self, mapped, where):
        goal = sent(mapped, where)
        self.assertTrue(is_point(goal), goal)
        self.assertEqual(fraction(goal), led(mapped, fraction(where)))
        return goal

    def test_both_ends_stay(self):
        for mapped in maps_to_look_at():
            for end in ENDS:
                self.assertEqual(self.check(mapped, end), end)

    def test_begins_and_points_within(self):
        for mapped in maps_to_look_at():
            for number in corners(mapped):
                self.check(mapped, told(number))

    def test_begins_are_sent_to_begins(self):
        for mapped in maps_to_look_at():
            for (begin, _), (goal, _) in zip(parted(mapped[0]), parted(mapped[1])):
                self.assertEqual(sent(mapped, told(begin)), told(goal))

    def test_deep_points_and_back_again(self):
        chance = Random(75)
        for mapped in maps_to_look_at():
            for where in deep_points(chance, 3) + [(1, 100), (2 ** 100 - 1, 100), (2 ** 99 + 1, 100)]:
                goal = self.check(mapped, where)
                self.assertEqual(sent(back(mapped), goal), where)

    def test_told_points_of_depth_300(self):
        mapped = some_maps(76, 1, 60)[0]
        for where in deep_points(Random(77), 30, 300) + [(1, 300), (2 ** 300 - 1, 300)]:
            self.check(mapped, where)

    def test_by_one_then_another(self):
        chance = Random(78)
        found = some_maps(79, 30)
        for f, g in zip(found, found[1:]):
            for where in deep_points(chance, 10):
                self.assertEqual(sent(then(f, g), where), sent(g, sent(f, where)))

    def test_least_depth(self):
        self.assertEqual(sent(MOVE, (1, 2)), (1, 1))
        self.assertEqual(sent(MOVE, (1, 1)), (3, 2))
        self.assertEqual(sent(MOVE, (1, 3)), (1, 2))
        self.assertEqual(sent(MOVE, (3, 3)), (5, 3))
        self.assertEqual(sent((((), PAIR), (PAIR, ())), (7, 3)), (3, 2))

    def test_by_the_one(self):
        for mapped in (ONE, (PAIR, PAIR), ((PAIR, PAIR), (PAIR, PAIR))):
            for where in deep_points(Random(80), 20) + list(ENDS):
                self.assertEqual(sent(mapped, where), where)


class TestSteep(unittest.TestCase):
    def check(self, mapped, where):
        found = steep(mapped, where)
        self.assertIs(type(found), tuple)
        self.assertTrue(all(side is None or is_number(side) for side in found))
        self.assertEqual(found, plainly_steep(mapped, fraction(where)))

    def test_all_corners(self):
        for mapped in maps_to_look_at():
            for number in corners(mapped):
                self.check(mapped, told(number))

    def test_deep_points(self):
        chance = Random(81)
        for mapped in maps_to_look_at():
            for where in deep_points(chance, 3) + [(1, 100), (2 ** 100 - 1, 100)]:
                self.check(mapped, where)

    def test_ends_have_one_side(self):
        for mapped in maps_to_look_at():
            left, right = steep(mapped, (0, 0))
            self.assertIsNone(left)
            self.assertTrue(is_number(right))
            left, right = steep(mapped, (1, 0))
            self.assertTrue(is_number(left))
            self.assertIsNone(right)

    def test_by_hand(self):
        self.assertEqual(steep(MOVE, (0, 0)), (None, 1))
        self.assertEqual(steep(MOVE, (1, 3)), (1, 1))
        self.assertEqual(steep(MOVE, (1, 2)), (1, 0))
        self.assertEqual(steep(MOVE, (3, 3)), (0, 0))
        self.assertEqual(steep(MOVE, (1, 1)), (0, -1))
        self.assertEqual(steep(MOVE, (3, 2)), (-1, -1))
        self.assertEqual(steep(MOVE, (1, 0)), (-1, None))
        self.assertEqual(steep((LEAF, LEAF), (0, 0)), (None, 0))

    def test_same_at_a_needless_cut(self):
        self.assertEqual(steep((PAIR, PAIR), (1, 1)), (0, 0))

    def test_same_answers_behind_others(self):
        found = some_maps(82, 10)
        points = deep_points(Random(83), 5) + list(ENDS)
        asks = [(ask, f, where) for ask in (sent, steep) for f in found for where in points]
        first = [ask(f, where) for ask, f, where in asks]
        backwards = [ask(f, where) for ask, f, where in reversed(asks)]
        self.assertEqual(first, backwards[::-1])


if __name__ == "__main__":
    unittest.main()
