"""Trees, leaves, stretches, joints, promise 5."""

import unittest
from random import Random

from halvewright.trees import begins, both, cuts, depth, grown, leaves
from samples import (
    LEAF, PAIR, all_trees, any_tree, chains, cut_at, fraction, is_number, is_point, is_tree,
    left_chain, parted, replaced, right_chain, side_to_side, some_trees, told,
)


def small_trees(most=6):
    return [tree for many in range(1, most + 1) for tree in all_trees(many)]


def sixty_leaves(seed, how_many):
    chance = Random(seed)
    return [any_tree(chance, 60) for _ in range(how_many)]


def trees_to_look_at():
    return small_trees() + sixty_leaves(11, 20) + chains(40) + chains(39) + some_trees(12, 20)


def deep_of(size):
    return size.denominator.bit_length() - 1


class TestLeavesAndDepth(unittest.TestCase):
    def test_the_leaf(self):
        self.assertEqual((leaves(LEAF), depth(LEAF)), (1, 0))
        self.assertEqual(begins(LEAF), [((0, 0), 0)])
        self.assertEqual(cuts(LEAF), [])

    def test_some_by_hand(self):
        tree = (PAIR, ())
        self.assertEqual((leaves(tree), depth(tree)), (3, 2))
        self.assertEqual(begins(tree), [((0, 0), 2), ((1, 2), 2), ((1, 1), 1)])
        self.assertEqual(cuts(tree), [(1, 2), (1, 1)])

    def test_numbers(self):
        for tree in trees_to_look_at():
            stretches = parted(tree)
            self.assertTrue(is_number(leaves(tree)) and is_number(depth(tree)))
            self.assertEqual(leaves(tree), len(stretches))
            self.assertEqual(depth(tree), max(deep_of(size) for _, size in stretches))

    def test_chains(self):
        for tree in chains(40):
            self.assertEqual((leaves(tree), depth(tree)), (41, 40))
        for tree in chains(59):
            self.assertEqual((leaves(tree), depth(tree)), (60, 59))


class TestBeginsAndCuts(unittest.TestCase):
    def test_begins(self):
        for tree in trees_to_look_at():
            found = begins(tree)
            self.assertIs(type(found), list)
            for pair in found:
                self.assertIs(type(pair), tuple)
                self.assertTrue(is_point(pair[0]) and is_number(pair[1]))
            wanted = [(told(begin), deep_of(size)) for begin, size in parted(tree)]
            self.assertEqual(found, wanted)

    def test_cuts(self):
        for tree in trees_to_look_at():
            found = cuts(tree)
            self.assertIs(type(found), list)
            self.assertTrue(all(is_point(where) for where in found))
            self.assertEqual([fraction(where) for where in found], sorted(cut_at(tree)))

    def test_chains_by_hand(self):
        self.assertEqual(cuts(left_chain(40)), [(1, 40 - k) for k in range(40)])
        self.assertEqual(cuts(right_chain(40)), [(2 ** k - 1, k) for k in range(1, 41)])
        self.assertEqual(cuts(side_to_side(3)), [(1, 1), (5, 3), (3, 2)])

    def test_lists_are_the_askers_own(self):
        for tree in trees_to_look_at():
            for ask in (begins, cuts):
                first = ask(tree)
                kept = list(first)
                first.clear()
                self.assertEqual(ask(tree), kept)


class TestBoth(unittest.TestCase):
    def check(self, one, other):
        found = both(one, other)
        self.assertTrue(is_tree(found))
        self.assertEqual(cut_at(found), cut_at(one) | cut_at(other))

    def test_small_trees_either_way(self):
        for one in small_trees(5):
            for other in small_trees(5):
                self.check(one, other)

    def test_great_trees_either_way(self):
        found = sixty_leaves(13, 8) + chains(40) + [LEAF, PAIR]
        for one in found:
            for other in found:
                self.check(one, other)
                self.assertEqual(both(one, other), both(other, one))

    def test_of_a_tree_and_itself(self):
        for tree in trees_to_look_at():
            self.assertEqual(both(tree, tree), tree)

    def test_of_a_tree_and_it_with_more_leaves(self):
        chance = Random(14)
        for tree in trees_to_look_at():
            more = tree
            for _ in range(3):
                more = replaced(more, chance.randrange(len(parted(more))), PAIR)
            self.assertEqual(both(tree, more), more)
            self.assertEqual(both(more, tree), more)

    def test_by_hand(self):
        self.assertEqual(both((PAIR, ()), ((), PAIR)), (PAIR, PAIR))


class TestGrown(unittest.TestCase):
    def test_first_middle_last_leaf(self):
        greater = any_tree(Random(15), 20)
        for tree in trees_to_look_at():
            many = len(parted(tree))
            for k in {0, many // 2, many - 1}:
                for part in (LEAF, PAIR, (PAIR, ()), greater):
                    self.assertEqual(grown(tree, k, part), replaced(tree, k, part))

    def test_for_a_leaf_it_is_the_same_tree(self):
        for tree in trees_to_look_at():
            for k in range(len(parted(tree))):
                self.assertEqual(grown(tree, k, LEAF), tree)

    def test_by_hand(self):
        self.assertEqual(grown(LEAF, 0, PAIR), PAIR)
        self.assertEqual(grown(PAIR, 1, PAIR), ((), PAIR))
        self.assertEqual(grown(((), PAIR), 1, PAIR), ((), (PAIR, ())))


class TestSameAnswers(unittest.TestCase):
    def test_asked_again_behind_others(self):
        found = trees_to_look_at()
        asks = [
            leaves, depth, begins, cuts,
            lambda tree: both(tree, side_to_side(5)),
            lambda tree: grown(tree, 0, PAIR),
        ]
        first = [ask(tree) for ask in asks for tree in found]
        again = [ask(tree) for ask in asks for tree in found]
        backwards = [ask(tree) for ask in reversed(asks) for tree in reversed(found)]
        self.assertEqual(first, again)
        self.assertEqual(first, backwards[::-1])

    def test_what_is_handed_in_stays(self):
        tree, other = side_to_side(9), left_chain(7)
        both(tree, other)
        grown(tree, 4, other)
        begins(tree)
        self.assertEqual((tree, other), (side_to_side(9), left_chain(7)))


if __name__ == "__main__":
    unittest.main()
