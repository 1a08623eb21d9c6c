"""Turnings of rings, and roots, promises 31 and 32."""

import unittest
from itertools import permutations
from random import Random

from halvewright.maps import back, low, high, power, then, trimmed
from halvewright.rings import rings_of
from halvewright.roots import root, turnings
from halvewright.rows import map_of_row, numbered
from samples import (
    A_MOVE, B_MOVE, ONE, PAIR, any_tree, copied, corners, cut_maps, cut_more, full_tree, is_map, is_number, led,
    needless_places, right_chain, left_chain, small_maps, some_maps,
)


def stood(f, h):
    return then(then(back(h), f), h)


def any_map(chance, most):
    many = chance.randint(1, most)
    return (any_tree(chance, many), any_tree(chance, many))


def ways_in(ring):
    """The ways as a dict from (knot, number of the way out) to (goal, side, turns)."""
    return {(knot, way): row[way] for knot, row in enumerate(ring) for way in range(1, len(row))}


def leads_ways(ring, images):
    ways = ways_in(ring)
    for (knot, way), (goal, side, _) in ways.items():
        led_goal, led_side, _ = ways[(images[knot], way)]
        if (led_goal, led_side) != (images[goal], side):
            return False
    return True


def numbers_u(ring, images):
    """The u of each knot, that of knot 0 being 0, or None where there are none."""
    ways = ways_in(ring)
    u = {0: 0}
    while len(u) < len(ring):
        for (knot, way), (goal, _, turns) in ways.items():
            more = ways[(images[knot], way)][2] - turns
            if knot in u and goal not in u:
                u[goal] = u[knot] + more
            elif goal in u and knot not in u:
                u[knot] = u[goal] - more
    for (knot, way), (goal, _, turns) in ways.items():
        if ways[(images[knot], way)][2] != turns + u[goal] - u[knot]:
            return None
    return u


def all_images(ring):
    """All ways to lead knots to knots of the same sort."""
    splits = [k for k, row in enumerate(ring) if row[0] == "split"]
    meets = [k for k, row in enumerate(ring) if row[0] == "meet"]
    for one in permutations(splits):
        for other in permutations(meets):
            yield {**dict(zip(splits, one)), **dict(zip(meets, other))}


def searched_parts(ring):
    """All t of which the ring has a t-th part, by a search through all turns."""
    found = set()
    for images in all_images(ring):
        if not leads_ways(ring, images):
            continue
        u = numbers_u(ring, images)
        if u is None:
            continue
        for t in range(1, len(ring) + 1):
            for more in range(-20, 21):
                if all(walked(images, u, knot, t, more) == (knot, 1) for knot in images):
                    found.add(t)
    return found


def walked(images, u, knot, t, more):
    """Where the knot has come when the turn was done t times, and its u added, each so much greater."""
    total = 0
    for _ in range(t):
        total += u[knot] + more
        knot = images[knot]
    return knot, total


class TestTurnings(unittest.TestCase):
    def check(self, mapped):
        told = turnings(mapped)
        self.assertIs(type(told), list)
        self.assertTrue(all(is_number(t) for t in told))
        rings = rings_of(mapped)
        self.assertEqual([t == 0 for t in told], [ring == () for ring in rings])
        self.assertTrue(all(t >= 0 for t in told))
        # The knots of a ring fall into as many of one kind as it has turnings.
        for t, ring in zip(told, rings):
            if ring:
                self.assertEqual(len(ring) % t, 0)
        return told

    def test_by_hand(self):
        wanted = {
            "": [0], "a": [1], "A": [1], "aa": [2], "b": [0, 1], "BBB": [0, 3], "abAB": [0, 1, 0], "ab": [1],
            "abAB" * 3: [0, 3, 0],
        }
        for row, told in wanted.items():
            self.assertEqual(self.check(map_of_row(row)), told, row)
        self.assertEqual(self.check((left_chain(24), right_chain(24))), [23])

    def test_of_the_one(self):
        for mapped in (ONE, (PAIR, PAIR), (full_tree(3), full_tree(3))):
            self.assertEqual(self.check(mapped), [0])

    def test_against_a_search(self):
        found = small_maps(4) + some_maps(931, 25, 6)
        found += [power(f, n) for f in (A_MOVE, B_MOVE, map_of_row("abAB")) for n in (-3, -2, 2, 3)]
        found += [power(map_of_row("ab"), 2), power(map_of_row("aB"), 2)]
        seen = {}
        for mapped in found:
            for t, ring in zip(self.check(mapped), rings_of(mapped)):
                if ring and len(ring) <= 8:
                    if ring not in seen:
                        seen[ring] = searched_parts(ring)
                    self.assertEqual(t, max(seen[ring]))
                    self.assertEqual(seen[ring], {part for part in range(1, t + 1) if t % part == 0})
        self.assertGreater(len(seen), 10)
        self.assertEqual({max(parts) for parts in seen.values()}, {1, 2, 3})

    def test_of_powers(self):
        for mapped in some_maps(932, 25, 9) + [A_MOVE, B_MOVE, ONE]:
            told = self.check(mapped)
            for n in range(1, 10):
                self.assertEqual(self.check(power(mapped, n)), [n * t for t in told])

    def test_of_the_back_and_where_one_stands(self):
        chance = Random(933)
        for mapped in some_maps(934, 25, 24) + [power(f, 3) for f in some_maps(935, 15, 7)]:
            told = self.check(mapped)
            self.assertEqual(self.check(back(mapped)), told)
            self.assertEqual(self.check(stood(mapped, any_map(chance, 8))), told)
            self.assertEqual(self.check(cut_more(chance, mapped, 3)), told)

    def test_side_by_side(self):
        found = [power(f, n) for n, f in enumerate(some_maps(936, 20, 5))] + [ONE, A_MOVE, B_MOVE]
        for f, g in zip(found, found[::-1]):
            one, other = self.check(f), self.check(g)
            wanted = one + other[1:] if one[-1] == other[0] == 0 else one + other
            self.assertEqual(self.check(((f[0], g[0]), (f[1], g[1]))), wanted)

    def test_low_and_high(self):
        for f in (A_MOVE, power(A_MOVE, 4)):
            self.assertEqual(turnings(low(f)), turnings(f) + [0])
            self.assertEqual(turnings(high(f)), [0] + turnings(f))


class TestRoot(unittest.TestCase):
    def check(self, mapped, n):
        told = root(mapped, n)
        self.assertIs(type(told), tuple)
        left = [(k, t) for k, t in enumerate(turnings(mapped)) if t % n != 0]
        if left:
            self.assertEqual(told, ("none", *left[0]))
            self.assertTrue(all(is_number(number) for number in told[1:]))
            return None
        self.assertEqual((told[0], len(told)), ("root", 2))
        r = told[1]
        self.assertTrue(is_map(r))
        self.assertEqual(needless_places(r), [])
        self.assertEqual(power(r, n), trimmed(mapped))
        return r

    def test_of_the_one(self):
        for mapped in (ONE, (PAIR, PAIR), (full_tree(3), full_tree(3))):
            for n in range(1, 10):
                self.assertEqual(root(mapped, n), ("root", ONE))

    def test_each_number(self):
        for mapped in small_maps(4) + some_maps(941, 40, 24) + cut_maps(942, 15):
            for n in range(1, 10):
                self.check(mapped, n)

    def test_first_root_is_the_map(self):
        for mapped in some_maps(943, 40, 24) + cut_maps(944, 10):
            self.assertEqual(root(mapped, 1), ("root", trimmed(mapped)))

    def test_roots_of_powers(self):
        for mapped in small_maps(3) + some_maps(945, 25, 8) + [A_MOVE, B_MOVE]:
            for n in range(1, 10):
                self.assertEqual(root(power(mapped, n), n), ("root", trimmed(mapped)))
                self.assertEqual(root(power(mapped, -n), n), ("root", back(mapped)))

    def test_roots_of_powers_that_stand_elsewhere(self):
        chance = Random(946)
        for mapped in some_maps(947, 40, 6):
            n = chance.randint(2, 9)
            h = any_map(chance, 10)
            moved = stood(power(mapped, n), h)
            self.assertEqual(root(moved, n), ("root", stood(mapped, h)))
            self.assertEqual(root(cut_more(chance, moved, 2), n), ("root", stood(mapped, h)))

    def test_roots_of_roots(self):
        for mapped in some_maps(948, 20, 5):
            whole = power(mapped, 12)
            for n, m in ((2, 3), (3, 2), (2, 2), (4, 3), (3, 4), (6, 2), (2, 6)):
                first = self.check(whole, n)
                self.assertEqual(self.check(first, m), power(mapped, 12 // (n * m)))

    def test_other_numbers_than_the_power(self):
        for mapped in some_maps(949, 15, 5) + [A_MOVE, B_MOVE]:
            for many in (2, 3, 4, 6, 8, 9):
                whole = power(mapped, many)
                for n in range(1, 10):
                    self.check(whole, n)

    def test_rings_side_by_side(self):
        for n, m in ((2, 4), (4, 2), (3, 2), (6, 9), (9, 6), (1, 8)):
            f, g = power(A_MOVE, n), power(B_MOVE, m)
            whole = ((f[0], g[0]), (f[1], g[1]))
            self.assertEqual(turnings(whole), [n, 0, m])
            for number in range(1, 10):
                told = root(whole, number)
                if n % number:
                    self.assertEqual(told, ("none", 0, n))
                elif m % number:
                    self.assertEqual(told, ("none", 2, m))
                else:
                    self.check(whole, number)

    def test_point_by_point(self):
        for mapped in some_maps(950, 10, 5):
            r = self.check(power(mapped, 3), 3)
            for number in corners(mapped, r):
                self.assertEqual(led(r, led(r, led(r, number))), led(mapped, led(mapped, led(mapped, number))))

    def test_moves(self):
        for n in range(2, 10):
            self.assertEqual(root(A_MOVE, n), ("none", 0, 1))
            self.assertEqual(root(B_MOVE, n), ("none", 1, 1))
            self.assertEqual(root(numbered(20), n), ("none", 1, 1))
        self.assertEqual(root((left_chain(24), right_chain(24)), 2), ("none", 0, 23))

    def test_no_map_is_another_root(self):
        found = {trimmed(mapped) for mapped in small_maps(4)}
        for n in (2, 3):
            powers = {}
            for mapped in sorted(found):
                whole = power(mapped, n)
                self.assertNotIn(whole, powers)
                powers[whole] = mapped
            for mapped in sorted(found):
                told = root(mapped, n)
                self.assertEqual(told[1] if told[0] == "root" else None, powers.get(mapped))


class TestSteadiness(unittest.TestCase):
    def test_same_answers_behind_others(self):
        found = [power(f, n % 4 + 1) for n, f in enumerate(some_maps(951, 12, 6))] + cut_maps(952, 6)
        before = copied(found)
        first = [(copied(turnings(f)), [root(f, n) for n in (1, 2, 3, 4)]) for f in found]
        for f in found:
            turnings(f).clear()
        again = [(turnings(f), [root(f, n) for n in (1, 2, 3, 4)]) for f in found[::-1]][::-1]
        self.assertEqual(again, first)
        self.assertEqual(found, before)


if __name__ == "__main__":
    unittest.main()
