"""The texts of trees and NoTree, promise 6."""

import unittest
from itertools import product
from random import Random

from halvewright.errors import NoTree
from halvewright.trees import read_tree, tree_text
from samples import (
    LEAF, PAIR, all_trees, any_tree, chains, full_tree, is_number, left_chain, right_chain,
    some_trees,
)


def plain_text(tree):
    if tree == ():
        return "."
    return "(" + plain_text(tree[0]) + plain_text(tree[1]) + ")"


SMALL_TEXTS = [plain_text(tree) for many in range(1, 7) for tree in all_trees(many)]


class TestTexts(unittest.TestCase):
    def trees(self):
        small = [tree for many in range(1, 7) for tree in all_trees(many)]
        return small + some_trees(21, 30) + chains(40) + chains(59) + [full_tree(5)]

    def test_by_hand(self):
        self.assertEqual(tree_text(LEAF), ".")
        self.assertEqual(tree_text(PAIR), "(..)")
        self.assertEqual(tree_text((PAIR, ())), "((..).)")
        self.assertEqual(read_tree("."), LEAF)
        self.assertEqual(read_tree("(.(..))"), ((), PAIR))

    def test_text_is_read_back(self):
        for tree in self.trees():
            text = tree_text(tree)
            self.assertEqual(text, plain_text(tree))
            self.assertEqual(read_tree(text), tree)

    def test_number_of_leaves_is_not_looked_at(self):
        self.assertEqual(read_tree(plain_text(full_tree(8))), full_tree(8))

    def test_a_told_tree_may_be_deeper_than_what_is_read(self):
        text = tree_text(right_chain(300))
        self.assertEqual(text, "(." * 300 + "." + ")" * 300)

    def test_same_answers_again(self):
        for text in ("(.(..))", "(..", "."):
            answers = []
            for _ in range(2):
                try:
                    answers.append(read_tree(text))
                except NoTree as refused:
                    answers.append(refused.at)
                tree_text(read_tree("((..)(..))"))
            self.assertEqual(answers[0], answers[1])


class TestNoTree(unittest.TestCase):
    def refused(self, text):
        with self.assertRaises(NoTree) as caught:
            read_tree(text)
        self.assertTrue(is_number(caught.exception.at))
        return caught.exception.at

    def test_by_hand(self):
        wanted = {
            "": 0, "x": 0, ")": 0, " ": 0, " .": 0, "\n": 0,
            "..": 1, ". ": 1, ".(": 1, ".)": 1, "(..).": 4, "(..))": 4, "(..)x": 4,
            "(": 1, "(.": 2, "(..": 3, "((..)": 5, "((..).": 6, "((": 2,
            "()": 1, "(.)": 2, "((..))": 5, "(...)": 3, "(..(..))": 3, "(.(..).)": 6,
            "(. .)": 2, "(.,.)": 2, "(.a": 2, "[..]": 0, "(.(.x": 4,
        }
        for text, at in wanted.items():
            self.assertEqual(self.refused(text), at, text)

    def test_all_short_texts(self):
        # The right place is one behind the longest begin that a tree's text has, too.
        heads = {text[:k] for text in SMALL_TEXTS for k in range(len(text) + 1)}
        trees = set(SMALL_TEXTS)
        for many in range(6):
            for signs in product("(.)x", repeat=many):
                text = "".join(signs)
                if text in trees:
                    self.assertEqual(plain_text(read_tree(text)), text)
                    continue
                at = 0
                while at < many and text[:at + 1] in heads:
                    at += 1
                self.assertEqual(self.refused(text), at, text)

    def test_each_cut_off_text(self):
        for tree in some_trees(22, 10):
            text = plain_text(tree)
            for many in range(len(text)):
                self.assertEqual(self.refused(text[:many]), many)

    def test_a_sign_too_many_behind(self):
        for tree in some_trees(23, 10):
            text = plain_text(tree)
            for sign in "(.) x\n~":
                self.assertEqual(self.refused(text + sign), len(text))
                self.assertEqual(self.refused(text + sign + text), len(text))

    def test_another_sign_anywhere(self):
        text = plain_text(any_tree(Random(24), 12))
        for at in range(len(text)):
            for sign in " ,x0[]~\n":
                self.assertEqual(self.refused(text[:at] + sign + text[at + 1:]), at)


class TestDeepBrackets(unittest.TestCase):
    def lay(self, sides):
        """The ends of a text whose brackets go down by these sides."""
        head = "".join("(" if side == "l" else "(." for side in sides)
        tail = "".join(".)" if side == "l" else ")" for side in reversed(sides))
        return head, tail

    def ways(self, many):
        chance = Random(25)
        yield "l" * many
        yield "r" * many
        yield ("lr" * many)[:many]
        yield ("rl" * many)[:many]
        for _ in range(5):
            yield "".join(chance.choice("lr") for _ in range(many))

    def test_one_beneath_99_is_let_by(self):
        for sides in self.ways(99):
            head, tail = self.lay(sides)
            for part in ("(..)", "."):
                text = head + part + tail
                self.assertEqual(tree_text(read_tree(text)), text)
        self.assertEqual(read_tree(plain_text(left_chain(100))), left_chain(100))

    def test_one_beneath_100_is_refused(self):
        for sides in self.ways(100):
            head, tail = self.lay(sides)
            self.assertEqual(tree_text(read_tree(head + "." + tail)), head + "." + tail)
            for part in ("(..)", "(", "(x"):
                with self.assertRaises(NoTree) as caught:
                    read_tree(head + part + tail)
                self.assertEqual(caught.exception.at, len(head))

    def test_in_the_right_part_of_the_last_that_is_let_by(self):
        for sides in self.ways(99):
            head, tail = self.lay(sides)
            with self.assertRaises(NoTree) as caught:
                read_tree(head + "(.(..))" + tail)
            self.assertEqual(caught.exception.at, len(head) + 2)

    def test_closed_brackets_do_not_count(self):
        head, tail = self.lay("r" * 90)
        text = head + plain_text(full_tree(6)) + tail
        self.assertEqual(tree_text(read_tree(text)), text)

    def test_very_many_brackets(self):
        for many in (101, 2000, 50000):
            with self.assertRaises(NoTree) as caught:
                read_tree("(" * many)
            self.assertEqual(caught.exception.at, 100)


if __name__ == "__main__":
    unittest.main()
