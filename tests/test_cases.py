"""Cases of a move behind a map, promise 25."""

import unittest
from random import Random

from halvewright.cases import case_of, cases
from halvewright.lengths import length
from halvewright.maps import then, trimmed
from halvewright.rows import map_of_row, move
from plainkinds import plain_kinds, plain_worth
from samples import (
    A_MOVE, LEAF, ONE, PAIR, any_tree, chains, copied, cut_maps, cut_more, full_tree, is_number, needless_places,
    parted, plainly_trimmed, replaced, small_maps, some_maps, some_rows,
)

PARTNERS = ("last", "far", "near", "left", "bare", "full")
FORTH = {
    "a": [("left", "last"), ("left", "far"), ("left", "near")],
    "b": [("bare", "last"), ("bare", "far"), ("full", "near")],
}
# The ways from the top of other to the joints that a move turns: 0 is the left part, 1 the right one.
TURNED = {"a": [(), (0,)], "A": [(), (1,)], "b": [(), (1,), (1, 0)], "B": [(), (1,), (1, 1)]}


def all_cases():
    found = set()
    for letter, turns in FORTH.items():
        for was, becomes in turns:
            for partner in PARTNERS:
                change = plain_worth(becomes, partner) - plain_worth(was, partner)
                found.add((letter, was, becomes, partner, change))
                found.add((letter.upper(), becomes, was, partner, -change))
    return found


def number_of_leaf(tree, way):
    """The number of the leaf to which the way leads, None where it is none."""
    ahead = 0
    for side in way:
        if side == 1:
            ahead += len(parted(tree[0]))
        tree = tree[side]
    return ahead if tree == LEAF else None


def plainly_cut(mapped, letter):
    """The trimmed map cut as little more as the move needs, and how often it was cut."""
    one, other = plainly_trimmed(mapped)
    times = 0
    for way in TURNED[letter]:
        k = number_of_leaf(other, way)
        if k is not None:
            one, other = replaced(one, k, PAIR), replaced(other, k, PAIR)
            times += 1
    return one, other, times


def plainly_turned(other, letter):
    """The tree other behind the move, and the number of the joint that is turned to another kind."""
    below = letter in "bB"
    ahead = len(parted(other[0])) if below else 0
    rest = other[1] if below else other
    if letter.islower():
        (left, middle), right = rest
        come = (left, (middle, right))
    else:
        left, (middle, right) = rest
        come = ((left, middle), right)
    # Of the two joints the right one is the top once by a and A, the left one is on neither side once by b and B.
    behind = left if below else (left, middle)
    return ((other[0], come) if below else come), ahead + len(parted(behind)) - 1


def plain_case(mapped, letter):
    one, other, _ = plainly_cut(mapped, letter)
    come, k = plainly_turned(other, letter)
    was, becomes, partner = plain_kinds(other)[k], plain_kinds(come)[k], plain_kinds(one)[k]
    return (letter, was, becomes, partner, plain_worth(becomes, partner) - plain_worth(was, partner))


def many_maps():
    chance = Random(561)
    great = [(any_tree(chance, 60), any_tree(chance, 60)) for _ in range(6)]
    rows = [map_of_row(row) for row in some_rows(562, 60, 0, 30)]
    chained = [(one, other) for one in chains(40) for other in chains(40)]
    return small_maps(5) + some_maps(563, 60) + great + rows + chained


class TestCases(unittest.TestCase):
    def test_all(self):
        told = cases()
        self.assertIs(type(told), list)
        self.assertEqual(len(told), 72)
        self.assertEqual(set(told), all_cases())

    def test_forms(self):
        for case in cases():
            self.assertIs(type(case), tuple)
            self.assertEqual([type(part) for part in case], [str, str, str, str, int])
            self.assertIn(case[4], (1, -1))

    def test_by_hand(self):
        told = cases()
        for case in (
            ("a", "left", "last", "last", -1), ("a", "left", "far", "last", 1), ("a", "left", "near", "full", 1),
            ("A", "last", "left", "last", 1), ("A", "near", "left", "bare", -1), ("b", "bare", "last", "near", -1),
            ("b", "bare", "far", "far", 1), ("b", "full", "near", "left", -1), ("B", "near", "full", "left", 1),
            ("B", "far", "bare", "last", -1),
        ):
            self.assertIn(case, told)

    def test_the_list_is_the_askers_own(self):
        wanted = cases()
        cases().clear()
        told = cases()
        told[0] = ()
        self.assertEqual(cases(), wanted)


class TestCaseOf(unittest.TestCase):
    def check(self, mapped, letter):
        told = case_of(mapped, letter)
        self.assertIs(type(told), tuple)
        self.assertTrue(is_number(told[4]))
        self.assertEqual(told, plain_case(mapped, letter))
        self.assertIn(told, all_cases())
        return told

    def test_of_the_one(self):
        wanted = {
            "a": ("a", "left", "last", "left", -1), "A": ("A", "last", "left", "last", 1),
            "b": ("b", "bare", "last", "bare", -1), "B": ("B", "last", "bare", "last", 1),
        }
        for letter, case in wanted.items():
            for mapped in (ONE, (PAIR, PAIR), (full_tree(3), full_tree(3))):
                self.assertEqual(self.check(mapped, letter), case)

    def test_by_hand(self):
        self.assertEqual(self.check(A_MOVE, "A"), ("A", "last", "left", "left", 1))
        self.assertEqual(self.check(A_MOVE, "a"), ("a", "left", "last", "left", -1))
        self.assertEqual(self.check(A_MOVE, "b"), ("b", "bare", "last", "bare", -1))
        self.assertEqual(self.check(map_of_row("A"), "a"), ("a", "left", "last", "last", -1))
        self.assertEqual(self.check(map_of_row("b"), "B"), ("B", "last", "bare", "bare", 1))
        self.assertEqual(self.check(map_of_row("AB"), "b"), ("b", "bare", "last", "last", -1))

    def test_many_maps(self):
        seen = set()
        for mapped in many_maps():
            for letter in "abAB":
                seen.add(self.check(mapped, letter))
        # Against each kind of partner at least, and of each turn.
        self.assertEqual({case[:3] for case in seen}, {case[:3] for case in all_cases()})
        self.assertEqual({case[3] for case in seen}, set(PARTNERS))

    def test_cut_more(self):
        chance = Random(564)
        for mapped in some_maps(565, 30) + [ONE, A_MOVE]:
            more = cut_more(chance, mapped, 4)
            for letter in "abAB":
                self.assertEqual(self.check(more, letter), case_of(trimmed(mapped), letter))

    def test_just_one_joint_changes_its_kind(self):
        for mapped in small_maps(4) + some_maps(566, 60):
            for letter in "abAB":
                _, other, _ = plainly_cut(mapped, letter)
                come, k = plainly_turned(other, letter)
                unlike = [j for j, (was, is_now) in enumerate(zip(plain_kinds(other), plain_kinds(come))) if was != is_now]
                self.assertEqual(unlike, [k])

    def test_change_of_the_length(self):
        plain, other_ones = 0, 0
        for mapped in many_maps():
            for letter in "abAB":
                one, other, times = plainly_cut(mapped, letter)
                come, _ = plainly_turned(other, letter)
                whole = then(mapped, move(letter))
                self.assertEqual(plainly_trimmed((one, come)), whole)
                change = length(whole) - length(mapped)
                self.assertIn(change, (1, -1))
                if times == 0 and not needless_places((one, come)):
                    self.assertEqual(change, case_of(mapped, letter)[4])
                    plain += 1
                else:
                    other_ones += 1
        self.assertGreater(min(plain, other_ones), 100)

    def test_there_and_back(self):
        for mapped in some_maps(567, 60, 20):
            for letter in "abAB":
                one, other, times = plainly_cut(mapped, letter)
                come, _ = plainly_turned(other, letter)
                if not needless_places((one, come)):
                    _, was, becomes, partner, change = case_of(mapped, letter)
                    way = letter.swapcase()
                    self.assertEqual(case_of((one, come), way), (way, becomes, was, partner, -change))


class TestSteadiness(unittest.TestCase):
    def test_same_answers_behind_others(self):
        found = some_maps(568, 15) + cut_maps(569, 15)
        before = copied(found)
        all_told = cases()
        asks = [(mapped, letter) for mapped in found for letter in "abAB"]
        first = [case_of(mapped, letter) for mapped, letter in asks]
        self.assertEqual([case_of(mapped, letter) for mapped, letter in reversed(asks)], first[::-1])
        self.assertEqual(cases(), all_told)
        self.assertEqual(found, before)


if __name__ == "__main__":
    unittest.main()
