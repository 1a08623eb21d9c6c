"""Strands, and the mark slid over knots: what likeness and roots stand on."""

import unittest
from fractions import Fraction
from random import Random

from halvewright.maps import back, power, then, trimmed
from halvewright.rings import undone
from halvewright.rows import map_of_row
from halvewright.sliding import rise, sink, slide, ways_in, ways_out
from halvewright.strands import WHOLE_LINE, halves, joined, laid_out
from samples import A_MOVE, B_MOVE, ONE, any_tree, cut_maps, is_map, left_chain, parted, right_chain, some_maps


def any_strands(chance, steps):
    """Strands that come of the whole line, as some are parted and neighbours joined, at random."""
    strands = [WHOLE_LINE]
    for _ in range(steps):
        k = chance.randrange(len(strands))
        if chance.random() < 0.6 or len(strands) == 1:
            strands[k:k + 1] = halves(strands[k])
        else:
            k = min(k, len(strands) - 2)
            strands[k:k + 2] = [joined(strands[k], strands[k + 1])]
    return strands


def covers_its_line(strand):
    """Whether the strand's pieces lie side by side on its own line, from its begin to its end."""
    stretches = [(Fraction(m, 2 ** e), Fraction(m + 1, 2 ** e)) for _, (m, e) in strand]
    beside = all(one[1] == other[0] for one, other in zip(stretches, stretches[1:]))
    return beside and stretches[0][0] == 0 and stretches[-1][1] == 1


def begin(strand):
    """Where the strand begins on the whole line."""
    n, d = strand[0][0]
    return Fraction(n, 2 ** d)


def turns(ways):
    return {start: len(strands) for start, strands in ways.strands.items()}


def between(before, ways):
    """The map from the strands that passed the mark to those that pass it now."""
    return then(laid_out(before), back(laid_out(ways.all_strands())))


class TestStrands(unittest.TestCase):
    def test_parted_and_joined(self):
        chance = Random(1201)
        deepest = 0
        for _ in range(60):
            strands = any_strands(chance, 60)
            for strand in strands:
                self.assertTrue(covers_its_line(strand))
                left, right = halves(strand)
                self.assertTrue(covers_its_line(left) and covers_its_line(right))
                self.assertEqual(joined(left, right), strand)
                deepest = max(deepest, max(e for _, (_, e) in strand))
            for left, right in zip(strands, strands[1:]):
                self.assertEqual(halves(joined(left, right)), (left, right))
        self.assertGreater(deepest, 3)

    def test_laid_out(self):
        chance = Random(1202)
        for _ in range(40):
            strands = any_strands(chance, 40)
            mapped = laid_out(strands)
            self.assertTrue(is_map(mapped))
            chance.shuffle(strands)
            self.assertEqual(laid_out(strands), mapped)
            tree = mapped[1]
            for strand in sorted(strands, key=begin)[:-1]:
                self.assertEqual(len(parted(tree[0])), len(strand))
                tree = tree[1]
        self.assertEqual(laid_out([WHOLE_LINE]), ONE)


class TestSlide(unittest.TestCase):
    def some(self):
        chance = Random(1203)
        found = some_maps(1204, 30, 16) + cut_maps(1205, 6) + [A_MOVE, B_MOVE, (left_chain(9), right_chain(9))]
        return found + [power(f, 3) for f in some_maps(1206, 10, 6)] + [
            map_of_row("abAB"), (any_tree(chance, 24), any_tree(chance, 24))
        ]

    def test_a_whole_turn_is_the_map(self):
        for mapped in self.some():
            for many in (-7, -3, -1, 1, 2, 6):
                ways = undone(mapped).ways
                before, counted = ways.all_strands(), turns(ways)
                slide(ways, {knot: many for knot in ways.all_knots()})
                self.assertEqual(turns(ways), counted)
                self.assertEqual(between(before, ways), power(mapped, many))

    def test_there_and_back(self):
        chance = Random(1207)
        for mapped in self.some():
            ways = undone(mapped).ways
            before, counted = ways.all_strands(), turns(ways)
            times = {knot: 0 for knot in ways.all_knots()}
            for _ in range(120 if times else 0):
                knot = chance.choice(sorted(times))
                if chance.random() < 0.5 and all(ways_out(ways, knot)):
                    rise(ways, knot)
                    times[knot] += 1
                elif all(ways_in(ways, knot)):
                    sink(ways, knot)
                    times[knot] -= 1
            whole = chance.randint(-2, 2)
            slide(ways, {knot: whole - many for knot, many in times.items()})
            self.assertEqual(turns(ways), counted)
            self.assertEqual(between(before, ways), power(mapped, whole))

    def test_turns_change_by_what_was_risen(self):
        chance = Random(1208)
        for mapped in self.some():
            ways = undone(mapped).ways
            for _ in range(10):
                counted = turns(ways)
                free = [knot for knot in ways.all_knots() if all(ways_out(ways, knot))]
                if not free:
                    break
                knot = chance.choice(free)
                rise(ways, knot)
                for start, many in turns(ways).items():
                    more = (ways.goals[start][:2] == knot) - (start[:2] == knot)
                    self.assertEqual(many, counted[start] + more)

    def test_the_one_has_nothing_to_slide_over(self):
        ways = undone(ONE).ways
        slide(ways, {})
        self.assertEqual(ways.all_strands(), [WHOLE_LINE])
        self.assertEqual(trimmed(laid_out(ways.all_strands())), ONE)


if __name__ == "__main__":
    unittest.main()
