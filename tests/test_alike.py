"""Maps that are the same but for where one stands, promise 30."""

import unittest
from random import Random

from halvewright.alike import alike
from halvewright.maps import back, power, then, trimmed
from halvewright.rings import rings_of
from halvewright.rows import map_of_row, numbered
from samples import (
    A_MOVE, B_MOVE, ONE, PAIR, any_tree, chains, copied, corners, cut_maps, cut_more, full_tree, is_map, is_number,
    led, left_chain, needless_places, plainly_trimmed, right_chain, small_maps, some_maps, some_rows, way_back,
)


def stood(f, h):
    """h back, then f, then h."""
    return then(then(back(h), f), h)


def any_map(chance, most):
    many = chance.randint(1, most)
    return (any_tree(chance, many), any_tree(chance, many))


class AlikeCase(unittest.TestCase):
    def check_alike(self, f, g):
        told = alike(f, g)
        self.assertIs(type(told), tuple)
        self.assertEqual((told[0], len(told)), ("alike", 2))
        h = told[1]
        self.assertTrue(is_map(h))
        self.assertEqual(needless_places(h), [])
        self.assertEqual(stood(f, h), trimmed(g))
        self.assertEqual(rings_of(f), rings_of(g))
        return h

    def check_unlike(self, f, g):
        told = alike(f, g)
        self.assertIs(type(told), tuple)
        self.assertEqual((told[0], len(told)), ("unlike", 2))
        self.assertTrue(is_number(told[1]))
        one, other = rings_of(f), rings_of(g)
        k = told[1]
        self.assertEqual(one[:k], other[:k])
        self.assertNotEqual(one[k:k + 1], other[k:k + 1])
        return k

    def check(self, f, g):
        return self.check_alike(f, g) if rings_of(f) == rings_of(g) else self.check_unlike(f, g)


class TestAlike(AlikeCase):
    def test_each_map_and_itself(self):
        for f in small_maps(4) + some_maps(901, 30, 24) + cut_maps(902, 10):
            self.check_alike(f, f)
            self.check_alike(f, trimmed(f))

    def test_the_one(self):
        for f in (ONE, (PAIR, PAIR), (full_tree(3), full_tree(3)), (left_chain(20), left_chain(20))):
            self.check_alike(ONE, f)
            self.check_alike(f, ONE)

    def test_moved_by_a_map(self):
        chance = Random(903)
        for f in some_maps(904, 100, 24) + [A_MOVE, B_MOVE, ONE]:
            h = any_map(chance, 24)
            self.check_alike(f, stood(f, h))
            self.check_alike(stood(f, h), f)
            self.check_alike(stood(f, h), stood(f, any_map(chance, 8)))

    def test_moved_by_small_maps(self):
        for f in small_maps(3):
            for h in small_maps(3):
                self.check_alike(f, stood(f, h))
                self.check_alike(stood(f, h), f)

    def test_moved_by_rows(self):
        for row, by in zip(some_rows(905, 40, 0, 20), some_rows(906, 40, 0, 20)):
            self.check_alike(map_of_row(row), map_of_row(way_back(by) + row + by))

    def test_moved_by_great_maps(self):
        for f in (A_MOVE, B_MOVE, map_of_row("abAB"), map_of_row("aab"), (right_chain(7), left_chain(7))):
            for one in chains(23):
                for other in chains(23):
                    self.check_alike(f, stood(f, (one, other)))
                    self.check_alike(stood(f, (one, other)), f)

    def test_powers_moved(self):
        chance = Random(907)
        for f in some_maps(908, 20, 4):
            for n in (2, 3, 5):
                h = any_map(chance, 6)
                self.check_alike(power(f, n), stood(power(f, n), h))
                self.check_alike(power(f, -n), power(stood(f, h), -n))

    def test_point_by_point(self):
        chance = Random(909)
        for f in some_maps(910, 15, 8) + [A_MOVE, B_MOVE]:
            g = stood(f, any_map(chance, 8))
            h = self.check_alike(f, g)
            for number in corners(f, g, h):
                # What h sends number to is sent by g to where h sends what f makes of it.
                self.assertEqual(led(g, led(h, number)), led(h, led(f, number)))

    def test_not_trimmed(self):
        chance = Random(911)
        for f in some_maps(912, 20):
            g = stood(f, any_map(chance, 8))
            h = self.check_alike(cut_more(chance, f, 3), cut_more(chance, g, 3))
            self.assertEqual(stood(plainly_trimmed(f), h), g)

    def test_all_moves_with_a_number_from_one_on(self):
        for n in range(1, 20):
            self.check_alike(numbered(1), numbered(n))
            self.check_alike(numbered(n), numbered(1))


class TestUnlike(AlikeCase):
    def test_by_hand(self):
        a, b = A_MOVE, B_MOVE
        for f, g, k in (
            (a, ONE, 0), (a, b, 0), (b, ONE, 1), (ONE, b, 1), (b, map_of_row("bb"), 1), (b, back(b), 1), (a, back(a), 0),
            (b, map_of_row("abAB"), 2), (map_of_row("abAB"), b, 2), (a, power(a, 2), 0), (ONE, a, 0),
        ):
            self.assertEqual(alike(f, g), ("unlike", k))
            self.assertEqual(alike(g, f), ("unlike", k))

    def test_just_where_the_rings_are_the_same(self):
        found = small_maps(4)
        for f in found[::3]:
            for g in found[::4]:
                self.check(f, g)
        for f, g in zip(some_maps(913, 60), some_maps(914, 60)):
            self.check(f, g)

    def test_against_a_search_through_small_maps(self):
        by = sorted({trimmed(h) for h in small_maps(4)})
        some = sorted({trimmed(f) for f in small_maps(3)} | set(by[::5]))
        for f in some:
            reached = {stood(f, h) for h in by}
            for g in some:
                if g in reached:
                    self.check_alike(f, g)
                elif alike(f, g)[0] == "unlike":
                    self.check_unlike(f, g)
                else:
                    self.check_alike(f, g)

    def test_backs_and_powers(self):
        for f in some_maps(915, 40, 10):
            self.check(f, back(f))
            for n in (-2, 2, 3):
                told = alike(f, power(f, n))
                self.assertEqual(told[0], "alike" if trimmed(f) == ONE else "unlike")
                self.check(f, power(f, n))

    def test_turned_about(self):
        for f, g in zip(some_maps(916, 40), some_maps(917, 40)):
            told, about = alike(f, g), alike(g, f)
            self.assertEqual(told[0], about[0])
            if told[0] == "unlike":
                self.assertEqual(told, about)


class TestSteadiness(AlikeCase):
    def test_same_answers_behind_others(self):
        chance = Random(918)
        found = some_maps(919, 12) + cut_maps(920, 4)
        pairs = [(f, stood(f, any_map(chance, 6))) for f in found] + list(zip(found, found[1:]))
        before = copied(pairs)
        first = [alike(f, g) for f, g in pairs]
        self.assertEqual([alike(f, g) for f, g in pairs[::-1]][::-1], first)
        self.assertEqual([alike(copied(f), copied(g)) for f, g in pairs], first)
        self.assertEqual(pairs, before)


if __name__ == "__main__":
    unittest.main()
