"""The kinds of joints, and the worth of two, promises 22 and 23."""

import unittest

from halvewright.kinds import kinds_of, worth
from plainkinds import plain_kinds, plain_worth
from samples import (
    LEAF, PAIR, all_trees, chains, copied, full_tree, is_number, left_chain, right_chain, side_to_side, some_trees,
)

KINDS = ("first", "left", "near", "far", "last", "full", "bare")


class TestKinds(unittest.TestCase):
    def check(self, tree):
        found = kinds_of(tree)
        self.assertIs(type(found), list)
        self.assertTrue(all(type(kind) is str and kind in KINDS for kind in found))
        self.assertEqual(found, plain_kinds(tree))
        return found

    def test_of_a_leaf_none(self):
        self.assertEqual(kinds_of(LEAF), [])

    def test_by_hand(self):
        wanted = [
            (PAIR, ["first"]),
            ((PAIR, LEAF), ["first", "left"]),
            ((LEAF, PAIR), ["first", "last"]),
            ((PAIR, PAIR), ["first", "left", "last"]),
            (((LEAF, PAIR), LEAF), ["first", "bare", "left"]),
            ((LEAF, (PAIR, LEAF)), ["first", "bare", "last"]),
            (((LEAF, (LEAF, PAIR)), LEAF), ["first", "full", "bare", "left"]),
            (((LEAF, (PAIR, LEAF)), LEAF), ["first", "bare", "bare", "left"]),
            ((LEAF, (LEAF, (PAIR, LEAF))), ["first", "near", "bare", "last"]),
            ((LEAF, (LEAF, (LEAF, (PAIR, LEAF)))), ["first", "far", "near", "bare", "last"]),
            ((LEAF, (PAIR, (LEAF, (LEAF, (PAIR, PAIR))))), ["first", "bare", "far", "far", "near", "bare", "last", "last"]),
            ((PAIR, (PAIR, PAIR)), ["first", "left", "bare", "last", "last"]),
            (full_tree(3), ["first", "left", "bare", "left", "bare", "last", "last"]),
            ((LEAF, (((LEAF, PAIR), LEAF), LEAF)), ["first", "full", "bare", "bare", "last"]),
            ((LEAF, (PAIR, (PAIR, PAIR))), ["first", "bare", "near", "bare", "last", "last"]),
        ]
        for tree, kinds in wanted:
            self.assertEqual(self.check(tree), kinds)

    def test_chains(self):
        for many in range(1, 41):
            self.assertEqual(self.check(left_chain(many)), ["first"] + ["left"] * (many - 1))
            self.assertEqual(self.check(right_chain(many)), ["first"] + ["last"] * (many - 1))
            self.check(side_to_side(many))
            self.check((LEAF, side_to_side(many - 1)))
            self.check((side_to_side(many - 1), LEAF))
            self.assertEqual(
                self.check((LEAF, (left_chain(many), LEAF))), ["first"] + ["bare"] * many + ["last"]
            )
            self.assertEqual(
                self.check((LEAF, (right_chain(many), LEAF))), ["first"] + ["full"] * (many - 1) + ["bare", "last"]
            )
            self.assertEqual(
                self.check((LEAF, right_chain(many, (PAIR, LEAF)))),
                ["first"] + ["far"] * (many - 1) + ["near", "bare", "last"],
            )

    def test_every_tree_of_a_few_leaves(self):
        seen = set()
        for many in range(1, 9):
            for tree in all_trees(many):
                seen.update(self.check(tree))
        self.assertEqual(seen, set(KINDS))

    def test_great_trees(self):
        for tree in some_trees(531, 60) + chains(100):
            self.check(tree)

    def test_first_is_the_first_alone(self):
        for tree in some_trees(532, 40):
            self.assertNotIn("first", kinds_of(tree)[1:])

    def test_the_list_is_the_askers_own(self):
        tree = full_tree(3)
        wanted = kinds_of(tree)
        kinds_of(tree).clear()
        told = kinds_of(tree)
        told[0] = "last"
        self.assertEqual(kinds_of(tree), wanted)


class TestWorth(unittest.TestCase):
    def test_every_pair_either_way_round(self):
        self.assertEqual(worth("first", "first"), 0)
        for kind in KINDS[1:]:
            for other in KINDS[1:]:
                told = worth(kind, other)
                self.assertTrue(is_number(told))
                self.assertEqual(told, plain_worth(kind, other), (kind, other))
                self.assertEqual(worth(other, kind), told)

    def test_as_the_document_tells_them(self):
        wanted = [
            ("last", "last", 0), ("last", "far", 2), ("last", "near", 2), ("far", "far", 2), ("far", "near", 2),
            ("near", "near", 2), ("left", "last", 1), ("left", "far", 1), ("left", "near", 1), ("left", "left", 2),
            ("left", "bare", 2), ("left", "full", 2), ("bare", "last", 1), ("bare", "far", 1), ("bare", "near", 3),
            ("bare", "bare", 2), ("bare", "full", 4), ("full", "last", 3), ("full", "far", 3), ("full", "near", 3),
            ("full", "full", 4),
        ]
        for kind, other, many in wanted:
            self.assertEqual(worth(kind, other), many)
            self.assertEqual(worth(other, kind), many)


class TestSteadiness(unittest.TestCase):
    def test_same_answers_behind_others(self):
        found = some_trees(533, 30)
        before = copied(found)
        first = [kinds_of(tree) for tree in found]
        worths = [worth(kind, other) for kind in KINDS[1:] for other in KINDS[1:]]
        self.assertEqual([kinds_of(tree) for tree in reversed(found)], first[::-1])
        self.assertEqual([worth(kind, other) for kind in KINDS[1:] for other in KINDS[1:]], worths)
        self.assertEqual(found, before)


if __name__ == "__main__":
    unittest.main()
