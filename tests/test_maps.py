"""Maps, needless places, maps put together, promises 7 and 8."""

import unittest
from random import Random

from halvewright.errors import NoMap
from halvewright.maps import back, high, low, made, needless, power, then, trimmed, trimmed_at
from halvewright.trees import tree_text
from samples import (
    LEAF, ONE, PAIR, all_trees, chains, copied, corners, cut_maps, cut_more, full_tree, is_map, is_number, led,
    left_chain, needless_places, parted, plainly_trimmed, right_chain, side_to_side, small_maps, some_maps,
    some_trees, without_joint,
)

MOVE = ((PAIR, ()), ((), PAIR))


def maps_to_look_at():
    great = [(one, other) for one in chains(40) for other in chains(40)]
    return small_maps(4) + some_maps(31, 40) + some_maps(32, 10, 60) + great


class MapCase(unittest.TestCase):
    def check_told(self, mapped):
        """A map that is told: a trimmed one."""
        self.assertTrue(is_map(mapped), mapped)
        self.assertEqual(needless_places(mapped), [])


class TestMade(MapCase):
    def test_trimmed_map_of_two_trees(self):
        for one, other in maps_to_look_at() + cut_maps(33, 20):
            mapped = made(one, other)
            self.check_told(mapped)
            self.assertEqual(mapped, plainly_trimmed((one, other)))

    def test_of_a_tree_and_itself_it_is_the_one(self):
        for tree in some_trees(34, 20) + chains(40):
            self.assertEqual(made(tree, tree), ONE)

    def test_by_hand(self):
        self.assertEqual(made((PAIR, ()), ((), PAIR)), MOVE)
        self.assertEqual(made(LEAF, LEAF), ONE)
        self.assertEqual(made((PAIR, PAIR), ((), (PAIR, ()))), ((PAIR, PAIR), ((), (PAIR, ()))))
        self.assertEqual(made((PAIR, PAIR), ((), ((), PAIR))), MOVE)

    def test_unlike_numbers_of_leaves(self):
        found = all_trees(1) + all_trees(2) + all_trees(4) + some_trees(35, 20) + chains(40)
        for one in found:
            for other in found:
                many = len(parted(one)), len(parted(other))
                if many[0] != many[1]:
                    with self.assertRaises(NoMap) as caught:
                        made(one, other)
                    self.assertEqual(caught.exception.at, min(many))
                    self.assertTrue(is_number(caught.exception.at))


class TestNeedless(MapCase):
    def test_places(self):
        for mapped in maps_to_look_at() + cut_maps(36, 40):
            found = needless(mapped)
            self.assertIs(type(found), list)
            self.assertTrue(all(is_number(k) for k in found))
            self.assertEqual(found, needless_places(mapped))

    def test_by_hand(self):
        self.assertEqual(needless(ONE), [])
        self.assertEqual(needless(MOVE), [])
        self.assertEqual(needless((PAIR, PAIR)), [0])
        self.assertEqual(needless((full_tree(2), full_tree(2))), [0, 2])
        # As deep as one another, and side by side, but not of one joint.
        self.assertEqual(needless(((PAIR, PAIR), (((), PAIR), ()))), [])

    def test_list_is_the_askers_own(self):
        mapped = (full_tree(3), full_tree(3))
        first = needless(mapped)
        self.assertEqual(first, [0, 2, 4, 6])
        first.clear()
        self.assertEqual(needless(mapped), [0, 2, 4, 6])


class TestTrimming(MapCase):
    def test_just_that_place_is_taken_out(self):
        for mapped in small_maps(4) + cut_maps(37, 40):
            for k in needless(mapped):
                less = trimmed_at(mapped, k)
                self.assertTrue(is_map(less))
                self.assertEqual(less, (without_joint(mapped[0], k), without_joint(mapped[1], k)))

    def test_not_trimmed_further(self):
        full = full_tree(2)
        self.assertEqual(trimmed_at((full, full), 0), (((), PAIR), ((), PAIR)))
        self.assertEqual(trimmed_at((full, full), 2), ((PAIR, ()), (PAIR, ())))
        self.assertEqual(trimmed_at((PAIR, PAIR), 0), ONE)

    def test_trimmed(self):
        for mapped in maps_to_look_at() + cut_maps(38, 40):
            less = trimmed(mapped)
            self.check_told(less)
            self.assertEqual(less, plainly_trimmed(mapped))
            for number in corners(mapped):
                self.assertEqual(led(less, number), led(mapped, number))

    def test_in_any_order_the_same_map_comes(self):
        chance = Random(39)
        for mapped in cut_maps(39, 25, 6) + [(full_tree(4), full_tree(4))]:
            for _ in range(4):
                less = mapped
                while needless(less):
                    less = trimmed_at(less, chance.choice(needless(less)))
                self.assertEqual(less, trimmed(mapped))

    def test_first_and_last_place_first(self):
        for mapped in cut_maps(40, 25, 6):
            for which in (0, -1):
                less = mapped
                while needless(less):
                    less = trimmed_at(less, needless(less)[which])
                self.assertEqual(less, trimmed(mapped))

    def test_trimmed_stays(self):
        for mapped in maps_to_look_at():
            self.assertEqual(trimmed(trimmed(mapped)), trimmed(mapped))

    def test_cut_more_and_trimmed_again(self):
        chance = Random(41)
        for mapped in some_maps(41, 40):
            self.assertEqual(trimmed(cut_more(chance, mapped, 5)), trimmed(mapped))


class TestThenAndBack(MapCase):
    def check_then(self, f, g):
        whole = then(f, g)
        self.check_told(whole)
        for number in corners(f, g, whole):
            self.assertEqual(led(whole, number), led(g, led(f, number)))

    def test_small_maps(self):
        found = small_maps(3) + some_maps(42, 5, 5)
        for f in found:
            for g in found:
                self.check_then(f, g)

    def test_some_maps(self):
        found = some_maps(43, 40) + cut_maps(44, 40)
        for f, g in zip(found, found[1:]):
            self.check_then(f, g)
            self.check_then(g, f)

    def test_great_maps(self):
        found = some_maps(45, 4, 60) + [(left_chain(40), right_chain(40)), (side_to_side(40), left_chain(40))]
        for f in found:
            self.check_then(f, found[0])
            self.check_then(found[-1], f)

    def test_the_first_is_first(self):
        # A quarter is sent by the move to half, where its high one begins to pull.
        upper = (((), MOVE[0]), ((), MOVE[1]))
        self.assertEqual(then(MOVE, upper), ((((), PAIR), ()), ((), ((), PAIR))))
        self.assertEqual(then(upper, MOVE), ((PAIR, (PAIR, ())), ((), ((), ((), PAIR)))))

    def test_back(self):
        for f in maps_to_look_at() + cut_maps(46, 30):
            way = back(f)
            self.check_told(way)
            self.assertEqual(way, plainly_trimmed((f[1], f[0])))
            for number in corners(f):
                self.assertEqual(led(way, led(f, number)), number)

    def test_back_behind_and_ahead_gives_the_one(self):
        for f in maps_to_look_at() + cut_maps(47, 30):
            self.assertEqual(then(f, back(f)), ONE)
            self.assertEqual(then(back(f), f), ONE)

    def test_the_one_behind_and_ahead_changes_nothing(self):
        for f in maps_to_look_at() + cut_maps(48, 30):
            self.assertEqual(then(f, ONE), trimmed(f))
            self.assertEqual(then((PAIR, PAIR), f), trimmed(f))

    def test_brackets_do_not_matter(self):
        found = some_maps(49, 30)
        for f, g, h in zip(found, found[1:], found[2:]):
            self.assertEqual(then(then(f, g), h), then(f, then(g, h)))


class TestPower(MapCase):
    def plain_power(self, f, n):
        whole = ONE
        for _ in range(abs(n)):
            whole = then(whole, f if n > 0 else back(f))
        return whole

    def test_small_powers(self):
        for f in small_maps(3) + some_maps(50, 20, 8) + cut_maps(51, 10, 2):
            for n in range(-6, 7):
                whole = power(f, n)
                self.check_told(whole)
                self.assertEqual(whole, self.plain_power(f, n))

    def test_point_by_point(self):
        for f in some_maps(52, 10, 6):
            for n in (1, 2, 3, 5):
                forth, way = power(f, n), power(f, -n)
                for number in corners(forth, f):
                    goal = number
                    for _ in range(n):
                        goal = led(f, goal)
                    self.assertEqual(led(forth, number), goal)
                    self.assertEqual(led(way, goal), number)

    def test_nought_gives_the_one(self):
        for f in maps_to_look_at() + cut_maps(53, 10):
            self.assertEqual(power(f, 0), ONE)

    def test_once_is_the_map_trimmed(self):
        for f in maps_to_look_at() + cut_maps(54, 10):
            self.assertEqual(power(f, 1), trimmed(f))
            self.assertEqual(power(f, -1), back(f))

    def test_to_the_bound(self):
        for f in [MOVE, back(MOVE), high(MOVE)] + some_maps(55, 12, 34):
            less_one = len(parted(f[0])) - 1
            if less_one:
                for n in (99 // less_one, -(99 // less_one)):
                    whole = power(f, n)
                    self.check_told(whole)
                    self.assertEqual(whole, self.plain_power(f, n))
                    self.assertEqual(then(whole, power(f, -n)), ONE)

    def test_powers_of_the_move_by_hand(self):
        self.assertEqual(power(MOVE, 49), (left_chain(50), right_chain(50)))
        self.assertEqual(power(MOVE, -49), (right_chain(50), left_chain(50)))

    def test_powers_of_the_one(self):
        for n in (-999, -1, 0, 1, 999):
            self.assertEqual(power(ONE, n), ONE)
            self.assertEqual(power((PAIR, PAIR), n), ONE)

    def test_powers_add_up(self):
        for f in some_maps(56, 8, 6):
            for m in range(-5, 6):
                for n in range(-5, 6):
                    self.assertEqual(then(power(f, m), power(f, n)), power(f, m + n))


class TestLowAndHigh(MapCase):
    def test_point_by_point(self):
        for f in maps_to_look_at() + cut_maps(57, 20):
            lower, upper = low(f), high(f)
            self.check_told(lower)
            self.check_told(upper)
            for number in corners(f):
                self.assertEqual(led(lower, number / 2), led(f, number) / 2)
                self.assertEqual(led(lower, (number + 1) / 2), (number + 1) / 2)
                self.assertEqual(led(upper, (number + 1) / 2), (led(f, number) + 1) / 2)
                self.assertEqual(led(upper, number / 2), number / 2)

    def test_of_the_one(self):
        for f in (ONE, (PAIR, PAIR), (full_tree(3), full_tree(3))):
            self.assertEqual(low(f), ONE)
            self.assertEqual(high(f), ONE)

    def test_by_hand(self):
        self.assertEqual(low(MOVE), (((PAIR, ()), ()), (((), PAIR), ())))
        self.assertEqual(high(MOVE), (((), (PAIR, ())), ((), ((), PAIR))))

    def test_of_maps_put_together(self):
        found = some_maps(58, 30)
        for f, g in zip(found, found[1:]):
            self.assertEqual(low(then(f, g)), then(low(f), low(g)))
            self.assertEqual(high(then(f, g)), then(high(f), high(g)))
            self.assertEqual(then(low(f), high(g)), then(high(g), low(f)))


class TestGreatSizes(MapCase):
    """What is told further on may be handed to then, back and power, whatever its size."""

    def texts(self, mapped):
        return tree_text(mapped[0]), tree_text(mapped[1])

    def test_deep_chains(self):
        many = 3000
        forth = (left_chain(many), right_chain(many))
        way = (right_chain(many), left_chain(many))
        self.assertEqual(self.texts(back(forth)), self.texts(way))
        self.assertEqual(then(forth, way), ONE)
        self.assertEqual(self.texts(power(MOVE, many - 1)), self.texts(forth))
        self.assertEqual(self.texts(power(way, -2)), self.texts(power(MOVE, 2 * many - 2)))
        self.assertEqual(trimmed((forth[0], forth[0])), ONE)


class TestSteadiness(MapCase):
    def test_same_answers_behind_others(self):
        found = some_maps(59, 20) + cut_maps(60, 20)
        asks = [
            needless, trimmed, back, low, high,
            lambda f: then(f, MOVE), lambda f: power(f, 3), lambda f: made(f[0], f[1]),
        ]
        first = [ask(f) for ask in asks for f in found]
        backwards = [ask(f) for ask in reversed(asks) for f in reversed(found)]
        self.assertEqual(first, backwards[::-1])

    def test_what_is_handed_in_stays(self):
        for f in cut_maps(61, 10):
            before = copied(f)
            for ask in (needless, trimmed, back, low, high):
                ask(f)
            then(f, f)
            power(f, 4)
            for k in needless(f):
                trimmed_at(f, k)
            self.assertEqual(f, before)


if __name__ == "__main__":
    unittest.main()
