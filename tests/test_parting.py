"""Where maps part and where they rest, promises 20 and 21."""

import unittest
from fractions import Fraction
from math import ceil
from random import Random

from halvewright.maps import back, high, low, power, then, trimmed
from halvewright.parting import rests, where_part
from halvewright.rows import map_of_row
from halvewright.runner import sent
from samples import (
    A_MOVE, B_MOVE, ONE, PAIR, chains, copied, cut_at, cut_maps, cut_more, fraction, full_tree, is_point, led,
    left_chain, parted, plainly_trimmed, right_chain, small_maps, some_maps, some_rows, told,
)

WHOLE = [((0, 0), (1, 0))]


def points_of(depth):
    """All points of just this depth, rising."""
    if depth == 0:
        return [(0, 0), (1, 0)]
    return [(n, depth) for n in range(1, 2 ** depth, 2)]


def ends_between(*maps):
    """Between each two neighbours of these the maps are even."""
    found = {Fraction(0), Fraction(1)}
    for one, _ in maps:
        found |= cut_at(one)
    return sorted(found)


def plain_part(f, g):
    """The point of 20: depth by depth, at the first points of each stretch on which both maps are even."""
    ends = ends_between(f, g)
    parting = [
        (low_end, high_end) for low_end, high_end in zip(ends, ends[1:])
        if led(f, low_end) != led(g, low_end) or led(f, high_end) != led(g, high_end)
    ]
    if not parting:
        return None
    depth = 0
    while True:
        size = Fraction(1, 2 ** depth)
        found = []
        for low_end, high_end in parting:
            first = ceil(low_end / size) * size
            # On such a stretch both agree at one point at most.
            tried = [first + k * size for k in range(4) if first + k * size <= high_end]
            found.extend(number for number in tried if led(f, number) != led(g, number))
        if found:
            return told(min(found))
        depth += 1


def plain_rests(mapped):
    ends = ends_between(mapped)
    found = []
    for low_end, high_end in zip(ends, ends[1:]):
        if led(mapped, low_end) == low_end and led(mapped, high_end) == high_end:
            if found and found[-1][1] == low_end:
                low_end = found.pop()[0]
            found.append((low_end, high_end))
    return [(told(low_end), told(high_end)) for low_end, high_end in found]


def deep_move(way, mapped=A_MOVE):
    """The map laid within a deep stretch, to which the way of l and h leads from the top."""
    for side in reversed(way):
        mapped = low(mapped) if side == "l" else high(mapped)
    return mapped


class PartCase(unittest.TestCase):
    def check(self, f, g):
        where = where_part(f, g)
        if where is not None:
            self.assertTrue(is_point(where))
            self.assertNotEqual(sent(f, where), sent(g, where))
        self.assertEqual(where, plain_part(f, g))
        self.assertEqual(where_part(g, f), where)
        return where


class TestWherePart(PartCase):
    def test_by_hand(self):
        self.assertEqual(where_part(ONE, A_MOVE), (1, 1))
        self.assertEqual(where_part(ONE, B_MOVE), (3, 2))
        self.assertEqual(where_part(A_MOVE, B_MOVE), (1, 1))
        self.assertEqual(where_part(ONE, low(A_MOVE)), (1, 2))
        self.assertEqual(where_part(ONE, then(low(A_MOVE), high(A_MOVE))), (1, 2))
        self.assertEqual(where_part(ONE, high(high(A_MOVE))), (7, 3))
        self.assertEqual(where_part(A_MOVE, power(A_MOVE, 2)), (1, 1))
        self.assertEqual(where_part(map_of_row("ab"), map_of_row("ba")), (1, 1))

    def test_same(self):
        for mapped in small_maps(3) + some_maps(501, 20, 60) + cut_maps(502, 20):
            self.assertIsNone(where_part(mapped, mapped))
            self.assertIsNone(where_part(mapped, trimmed(mapped)))
            self.assertIsNone(where_part(trimmed(mapped), mapped))
        self.assertIsNone(where_part(ONE, (PAIR, PAIR)))
        self.assertIsNone(where_part((full_tree(3), full_tree(3)), (left_chain(40), left_chain(40))))

    def test_just_where_trimmed_they_are_equal(self):
        found = small_maps(3) + some_maps(503, 15, 5) + cut_maps(504, 5, 1)
        for f in found:
            for g in found:
                self.assertEqual(where_part(f, g) is None, plainly_trimmed(f) == plainly_trimmed(g))

    def test_every_point_of_small_depths(self):
        found = small_maps(4) + [map_of_row(row) for row in some_rows(505, 20, 0, 6)]
        chance = Random(506)
        for _ in range(400):
            f, g = chance.choice(found), chance.choice(found)
            all_points = [where for depth in range(7) for where in points_of(depth)]
            parting = [where for where in all_points if sent(f, where) != sent(g, where)]
            self.assertEqual(where_part(f, g), parting[0] if parting else None)

    def test_some_maps(self):
        found = some_maps(507, 40) + cut_maps(508, 20)
        for f, g in zip(found, found[1:]):
            self.check(f, g)

    def test_close_maps(self):
        chance = Random(509)
        for f in some_maps(510, 30):
            way = "".join(chance.choice("lh") for _ in range(chance.randint(1, 12)))
            g = then(f, deep_move(way))
            self.check(f, g)
            self.check(f, then(deep_move(way, back(A_MOVE)), f))

    def test_great_maps(self):
        found = some_maps(511, 4, 60) + [(one, other) for one in chains(40) for other in chains(40)]
        for f in found:
            self.check(f, found[0])
            self.check(f, ONE)

    def test_only_in_a_deep_stretch(self):
        chance = Random(512)
        for deep in (1, 5, 20, 38):
            for _ in range(3):
                way = "".join(chance.choice("lh") for _ in range(deep))
                where = self.check(ONE, deep_move(way))
                n = int(way.replace("l", "0").replace("h", "1"), 2)
                self.assertEqual(where, (2 * n + 1, deep + 1))
                f = some_maps(513 + deep, 1, 20)[0]
                self.check(f, then(deep_move(way), f))
                self.check(then(f, deep_move(way)), f)

    def test_of_two_deep_stretches_the_better(self):
        wanted = {("lhl", "hl"): "hl", ("llh", "hhl"): "llh", ("hhh", "lll"): "lll", ("l", "h"): "l", ("h", "ll"): "h"}
        for ways, way in wanted.items():
            whole = then(deep_move(ways[0]), deep_move(ways[1]))
            self.assertEqual(self.check(ONE, whole), where_part(ONE, deep_move(way)))

    def test_a_point_of_least_depth_that_both_send_alike(self):
        # Half stays though all around it is moved.
        f = then(low(back(A_MOVE)), high(A_MOVE))
        self.assertEqual(self.check(ONE, f), (1, 2))
        for f, g in zip(some_maps(514, 40, 6), some_maps(515, 40, 6)):
            self.check(then(low(f), high(g)), ONE)

    def test_hundred_leaves(self):
        f = (left_chain(99), right_chain(99))
        self.assertEqual(where_part(f, ONE), (1, 1))
        self.assertEqual(self.check(f, power(A_MOVE, 97)), (1, 1))
        self.assertIsNone(where_part(f, power(A_MOVE, 98)))


class TestRests(unittest.TestCase):
    def check(self, mapped):
        found = rests(mapped)
        self.assertIs(type(found), list)
        for pair in found:
            self.assertIs(type(pair), tuple)
            self.assertTrue(len(pair) == 2 and all(is_point(part) for part in pair))
            self.assertLess(fraction(pair[0]), fraction(pair[1]))
        for one, other in zip(found, found[1:]):
            self.assertLess(fraction(one[1]), fraction(other[0]))
        self.assertEqual(found, plain_rests(mapped))
        return found

    def test_by_hand(self):
        self.assertEqual(rests(ONE), WHOLE)
        self.assertEqual(rests(A_MOVE), [])
        self.assertEqual(rests(B_MOVE), [((0, 0), (1, 1))])
        self.assertEqual(rests(low(A_MOVE)), [((1, 1), (1, 0))])
        self.assertEqual(rests(low(high(A_MOVE))), [((0, 0), (1, 2)), ((1, 1), (1, 0))])
        self.assertEqual(rests(then(low(A_MOVE), high(A_MOVE))), [])
        self.assertEqual(rests(deep_move("lhl")), [((0, 0), (1, 2)), ((3, 3), (1, 0))])
        self.assertEqual(rests(then(deep_move("ll"), deep_move("hh"))), [((1, 2), (3, 2))])

    def test_of_the_one(self):
        for mapped in (ONE, (PAIR, PAIR), (full_tree(4), full_tree(4)), (right_chain(40), right_chain(40))):
            self.assertEqual(self.check(mapped), WHOLE)

    def test_neighbours_are_put_together(self):
        # Both sides of half rest, by leaves of unlike depths that no joint holds together.
        f = then(deep_move("lll"), deep_move("hhh"))
        self.assertEqual(self.check(f), [((1, 3), (7, 3))])
        self.assertEqual(self.check(deep_move("lhlhlh")), [((0, 0), (21, 6)), ((11, 5), (1, 0))])

    def test_all_small_maps(self):
        for mapped in small_maps(5):
            self.check(mapped)

    def test_some_maps(self):
        for mapped in some_maps(521, 40) + some_maps(522, 6, 60):
            self.check(mapped)

    def test_maps_with_rests(self):
        chance = Random(523)
        many = set()
        for _ in range(60):
            whole = ONE
            for _ in range(chance.randint(1, 4)):
                way = "".join(chance.choice("lh") for _ in range(chance.randint(1, 5)))
                whole = then(whole, deep_move(way, chance.choice((A_MOVE, back(B_MOVE)))))
            many.add(len(self.check(whole)))
        self.assertTrue(many >= {1, 2, 3})

    def test_deep_chains(self):
        for one in chains(40):
            for other in chains(40):
                self.check((one, other))
        self.check(deep_move("lh" * 19))

    def test_cut_more(self):
        chance = Random(524)
        for mapped in [deep_move("lh"), deep_move("hll"), B_MOVE, ONE] + some_maps(525, 20):
            more = cut_more(chance, mapped, 5)
            self.assertEqual(self.check(more), rests(trimmed(mapped)))

    def test_each_point_within_stays_and_others_do_not(self):
        for mapped in [deep_move("lh"), deep_move("hl"), B_MOVE, low(B_MOVE)] + small_maps(4):
            found = [(fraction(p), fraction(q)) for p, q in rests(mapped)]
            for n in range(0, 3 * 64 + 1):
                number = Fraction(n, 3 * 64)
                if any(low_end <= number <= high_end for low_end, high_end in found):
                    self.assertEqual(led(mapped, number), number)
            for begin, size in parted(mapped[0]):
                within = any(low_end <= begin and begin + size <= high_end for low_end, high_end in found)
                self.assertEqual(led(mapped, begin + size / 2) == begin + size / 2, within)

    def test_the_list_is_the_askers_own(self):
        mapped = low(high(A_MOVE))
        first = rests(mapped)
        wanted = list(first)
        first.clear()
        second = rests(mapped)
        self.assertEqual(second, wanted)
        second.append(second.pop(0))
        self.assertEqual(rests(mapped), wanted)


class TestSteadiness(unittest.TestCase):
    def test_same_answers_behind_others(self):
        found = some_maps(526, 15) + cut_maps(527, 15)
        before = copied(found)
        first = [(where_part(f, g), rests(f)) for f, g in zip(found, found[1:])]
        again = [(where_part(f, g), rests(f)) for f, g in reversed(list(zip(found, found[1:])))]
        self.assertEqual(again[::-1], first)
        self.assertEqual(found, before)


if __name__ == "__main__":
    unittest.main()
