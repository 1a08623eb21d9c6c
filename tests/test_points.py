"""Points, promise 4."""

import unittest
from fractions import Fraction
from random import Random

from halvewright.points import before, between, point
from samples import fraction, is_point, told

ENDS = ((0, 0), (1, 0))


def points_to(deep):
    return [told(Fraction(n, 2 ** deep)) for n in range(2 ** deep + 1)]


def deep_points(seed, how_many, most=300):
    chance = Random(seed)
    found = []
    for _ in range(how_many):
        d = chance.randint(1, most)
        found.append((2 * chance.randrange(2 ** (d - 1)) + 1, d))
    return found


class TestPoint(unittest.TestCase):
    def check(self, n, d):
        made = point(n, d)
        self.assertTrue(is_point(made), made)
        self.assertEqual(fraction(made), Fraction(n, 2 ** d))

    def test_all_of_small_depth(self):
        for d in range(9):
            for n in range(2 ** d + 1):
                self.check(n, d)

    def test_each_depth_to_300(self):
        chance = Random(4)
        for d in range(301):
            whole = 2 ** d
            near = [0, 1, 2, 3, whole // 2, whole - 2, whole - 1, whole]
            far = [chance.randint(0, whole) for _ in range(4)]
            for n in near + far:
                if 0 <= n <= whole:
                    self.check(n, d)

    def test_ends(self):
        for d in range(301):
            self.assertEqual(point(0, d), (0, 0))
            self.assertEqual(point(2 ** d, d), (1, 0))

    def test_lowest_places_cleared(self):
        chance = Random(5)
        for d in range(1, 301):
            n = chance.randrange(2 ** d) | 1
            for cleared in range(0, 301 - d, 7):
                self.assertEqual(point(n << cleared, d + cleared), (n, d))

    def test_some_by_hand(self):
        self.assertEqual(point(2, 2), (1, 1))
        self.assertEqual(point(6, 3), (3, 2))
        self.assertEqual(point(5, 3), (5, 3))
        self.assertEqual(point(1, 300), (1, 300))


class TestBetween(unittest.TestCase):
    def check(self, p, q):
        half = between(p, q)
        self.assertTrue(is_point(half), half)
        self.assertEqual(fraction(half), (fraction(p) + fraction(q)) / 2)

    def test_all_small_points_either_way(self):
        for p in points_to(5):
            for q in points_to(5):
                self.check(p, q)

    def test_deep_points_either_way(self):
        found = deep_points(6, 40) + list(ENDS)
        for p in found:
            for q in found:
                self.check(p, q)

    def test_of_a_point_and_itself(self):
        for p in points_to(6) + deep_points(7, 50):
            self.assertEqual(between(p, p), p)

    def test_some_by_hand(self):
        self.assertEqual(between((0, 0), (1, 0)), (1, 1))
        self.assertEqual(between((1, 0), (1, 1)), (3, 2))
        self.assertEqual(between((1, 2), (3, 2)), (1, 1))
        self.assertEqual(between((1, 3), (1, 2)), (3, 4))


class TestBefore(unittest.TestCase):
    def check(self, p, q):
        self.assertIs(before(p, q), fraction(p) < fraction(q))
        self.assertIs(before(q, p), fraction(q) < fraction(p))

    def test_all_small_points(self):
        for p in points_to(5):
            for q in points_to(5):
                self.check(p, q)

    def test_deep_points(self):
        found = deep_points(8, 40) + list(ENDS)
        for p in found:
            for q in found:
                self.check(p, q)

    def test_near_neighbours(self):
        for d in range(2, 301):
            self.check((1, 1), (2 ** (d - 1) + 1, d))
            self.check((1, 1), (2 ** (d - 1) - 1, d))

    def test_a_point_is_not_before_itself(self):
        for p in points_to(6) + deep_points(9, 50):
            self.assertIs(before(p, p), False)


if __name__ == "__main__":
    unittest.main()
