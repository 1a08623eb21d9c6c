"""Ends of maps, and commutators, promise 33."""

import unittest
from random import Random

from halvewright.commutators import commutator, commutators, ends
from halvewright.lengths import length
from halvewright.maps import back, power, then, trimmed
from halvewright.rows import map_of_row, numbered
from halvewright.runner import steep
from samples import (
    A_MOVE, B_MOVE, ONE, PAIR, any_tree, copied, corners, cut_maps, cut_more, full_tree, is_map, is_number, led,
    left_chain, needless_places, plainly_trimmed, right_chain, small_maps, some_maps, some_rows,
)


def plain_ends(mapped):
    """By lengths of the first and the last stretch, counted from the top of the trees."""
    found = []
    for side in (0, -1):
        depths = []
        for tree in mapped:
            deep = 0
            while tree != ():
                tree = tree[side]
                deep += 1
            depths.append(deep)
        found.append(depths[0] - depths[1])
    return tuple(found)


def even_at_the_ends(chance, most):
    """A map both of whose ends are 0."""
    while True:
        many = chance.randint(1, most)
        mapped = (any_tree(chance, many), any_tree(chance, many))
        e, other = plain_ends(mapped)
        if (e, other) == (0, 0):
            return mapped
        if abs(e) + abs(other) < 4:
            # What is stretched at the ends is pushed back there by moves.
            return then(mapped, then(power(A_MOVE, -e), power(B_MOVE, other + e)))


def pushed(f, g, number):
    """Where f, g, f back, g back send a number, one behind another."""
    for mapped in (f, g, f[::-1], g[::-1]):
        number = led(mapped, number)
    return number


class CommutatorCase(unittest.TestCase):
    def check(self, mapped):
        told = commutators(mapped)
        self.assertIs(type(told), tuple)
        if plain_ends(mapped) != (0, 0):
            self.assertEqual(told, ("ends", *plain_ends(mapped)))
            self.assertTrue(all(is_number(end) for end in told[1:]))
            return None
        self.assertEqual((told[0], len(told)), ("made", 2))
        pairs = told[1]
        self.assertIs(type(pairs), list)
        whole = ONE
        for pair in pairs:
            self.assertIs(type(pair), tuple)
            f, g = pair
            for part in pair:
                self.assertTrue(is_map(part))
                self.assertEqual(needless_places(part), [])
            whole = then(whole, commutator(f, g))
        self.assertEqual(whole, trimmed(mapped))
        self.assertLessEqual(2 * len(pairs), length(mapped))
        return pairs


class TestEnds(unittest.TestCase):
    def check(self, mapped):
        told = ends(mapped)
        self.assertIs(type(told), tuple)
        self.assertTrue(all(is_number(end) for end in told))
        self.assertEqual(told, plain_ends(mapped))
        self.assertEqual(told, (steep(mapped, (0, 0))[1], steep(mapped, (1, 0))[0]))
        return told

    def test_by_hand(self):
        for mapped, wanted in (
            (ONE, (0, 0)), (A_MOVE, (1, -1)), (B_MOVE, (0, -1)), (back(A_MOVE), (-1, 1)), (map_of_row("abAB"), (0, 0)),
            ((left_chain(40), right_chain(40)), (39, -39)), ((right_chain(40), left_chain(40)), (-39, 39)),
        ):
            self.assertEqual(self.check(mapped), wanted)

    def test_some_maps(self):
        for mapped in small_maps(4) + some_maps(961, 60, 60) + cut_maps(962, 30):
            self.assertEqual(self.check(mapped), ends(trimmed(mapped)))

    def test_added_where_maps_are_put_together(self):
        for f, g in zip(some_maps(963, 40), some_maps(964, 40)):
            self.assertEqual(self.check(then(f, g)), tuple(e + other for e, other in zip(ends(f), ends(g))))
            self.assertEqual(self.check(back(f)), tuple(-e for e in ends(f)))


class TestCommutator(unittest.TestCase):
    def test_by_hand(self):
        self.assertEqual(commutator(A_MOVE, B_MOVE), map_of_row("abAB"))
        self.assertEqual(commutator(B_MOVE, A_MOVE), map_of_row("baBA"))
        self.assertEqual(commutator(ONE, A_MOVE), ONE)
        self.assertEqual(commutator(A_MOVE, A_MOVE), ONE)
        self.assertEqual(commutator((PAIR, PAIR), ONE), ONE)

    def test_point_by_point(self):
        for f, g in zip(some_maps(965, 40) + cut_maps(966, 10), cut_maps(967, 10) + some_maps(968, 40)):
            told = commutator(f, g)
            self.assertTrue(is_map(told))
            self.assertEqual(needless_places(told), [])
            for number in corners(told, f, g)[::3]:
                self.assertEqual(led(told, number), pushed(f, g, number))
            self.assertEqual(told, then(f, then(g, then(back(f), back(g)))))
            self.assertEqual(plain_ends(told), (0, 0))


class TestCommutators(CommutatorCase):
    def test_of_the_one(self):
        for mapped in (ONE, (PAIR, PAIR), (full_tree(3), full_tree(3)), (left_chain(20), left_chain(20))):
            self.assertEqual(commutators(mapped), ("made", []))

    def test_ends_by_hand(self):
        self.assertEqual(commutators(A_MOVE), ("ends", 1, -1))
        self.assertEqual(commutators(B_MOVE), ("ends", 0, -1))
        self.assertEqual(commutators(map_of_row("AB")), ("ends", -1, 2))
        self.assertEqual(commutators(map_of_row("aB")), ("ends", 1, 0))

    def test_one_commutator(self):
        for row in ("abAB", "baBA", "aBAb", "aabbAABB", "BBaabbAA"):
            self.assertEqual(len(self.check(map_of_row(row))), 1)

    def test_small_maps(self):
        for mapped in small_maps(5):
            self.check(mapped)

    def test_commutators_of_some_maps(self):
        for f, g in zip(some_maps(969, 30, 12), some_maps(970, 30, 12)):
            self.assertIsNotNone(self.check(commutator(f, g)))
            self.assertIsNotNone(self.check(then(commutator(f, g), commutator(g, back(f)))))

    def test_even_at_the_ends(self):
        chance = Random(971)
        for _ in range(60):
            mapped = even_at_the_ends(chance, 24)
            self.assertIsNotNone(self.check(mapped))
            self.assertIsNotNone(self.check(back(mapped)))
            self.assertIsNotNone(self.check(cut_more(chance, mapped, 3)))

    def test_any_ends(self):
        for mapped in some_maps(972, 40, 24) + cut_maps(973, 10) + [map_of_row(row) for row in some_rows(974, 30, 0, 20)]:
            self.check(mapped)

    def test_rows_in_which_moves_cancel(self):
        chance = Random(975)
        for many in range(0, 16):
            letters = list("aA" * many + "bB" * chance.randint(0, 10))
            chance.shuffle(letters)
            self.assertIsNotNone(self.check(map_of_row("".join(letters))))

    def test_far_from_the_ends(self):
        for n in range(2, 12):
            mapped = then(numbered(n), back(numbered(n + 3)))
            self.assertIsNotNone(self.check(mapped))

    def test_pairs_point_by_point(self):
        chance = Random(976)
        for _ in range(10):
            mapped = even_at_the_ends(chance, 10)
            pairs = self.check(mapped)
            for number in corners(mapped):
                goal = number
                for f, g in pairs:
                    goal = pushed(f, g, goal)
                self.assertEqual(goal, led(mapped, number))


class TestSteadiness(CommutatorCase):
    def test_told_lists_are_the_askers_own(self):
        chance = Random(977)
        found = [even_at_the_ends(chance, 12) for _ in range(15)] + cut_maps(978, 5)
        before = copied(found)
        first = [copied(commutators(mapped)) for mapped in found]
        for mapped in found:
            told = commutators(mapped)
            if told[0] == "made":
                told[1].append((ONE, ONE))
                told[1].reverse()
            ends(mapped)
        self.assertEqual([commutators(mapped) for mapped in found[::-1]][::-1], first)
        self.assertEqual([commutators(plainly_trimmed(mapped)) for mapped in found], first)
        self.assertEqual(found, before)


if __name__ == "__main__":
    unittest.main()
