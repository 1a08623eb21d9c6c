"""The rings of undone drawings, promises 27 to 29."""

import unittest
from random import Random

from halvewright.drawing import Drawing
from halvewright.maps import back, power, then, trimmed
from halvewright.rings import rings_of
from halvewright.rows import map_of_row
from plaindrawings import PlainDrawing, plain_rings
from samples import (
    A_MOVE, B_MOVE, LEAF, ONE, PAIR, any_tree, chains, copied, cut_maps, cut_more, full_tree, is_number, left_chain,
    parted, right_chain, small_maps, some_maps, some_rows,
)

# The ring of the move a, and that of its back.
OF_A = (("meet", (0, 1, 1)), ("split", (1, 0, 1), (0, 0, 0)))
OF_BACK = (("meet", (0, 0, 1)), ("split", (0, 1, 0), (1, 0, 1)))


def knots_in(rings):
    return sum(len(ring) for ring in rings)


def side_by_side(f, g):
    return ((f[0], g[0]), (f[1], g[1]))


def chained(rings, others):
    """The rings of both, two loops beside one another being one."""
    if rings[-1] == others[0] == ():
        return rings + others[1:]
    return rings + others


def begun_again(ring, begin):
    """The ring told from another begin, by the told rows alone."""
    ins = {number: {} for number in range(len(ring))}
    for number, row in enumerate(ring):
        for goal, side, turns in row[1:]:
            ins[goal][side] = (number, turns)
    numbers, levels = {begin: 0}, {begin: 0}
    order = [begin]
    for here in order:
        steps = [(ins[here][side][0], -ins[here][side][1]) for side in sorted(ins[here])]
        steps += [(goal, turns) for goal, _, turns in ring[here][1:]]
        for there, more in steps:
            if there not in numbers:
                numbers[there] = len(numbers)
                levels[there] = levels[here] + more
                order.append(there)
    return tuple(
        (ring[here][0], *(
            (numbers[goal], side, turns + levels[here] - levels[goal]) for goal, side, turns in ring[here][1:]
        ))
        for here in order
    )


class RingCase(unittest.TestCase):
    def check(self, mapped):
        rings = rings_of(mapped)
        self.assertIs(type(rings), list)
        self.assertNotEqual(rings, [])
        for ring, beside in zip(rings, rings[1:]):
            self.assertFalse(ring == beside == ())
        for ring in rings:
            self.check_form(ring)
            for begin in range(len(ring)):
                self.assertLessEqual(ring, begun_again(ring, begin))
            self.assertIn(ring, [begun_again(ring, begin) for begin in range(len(ring))] or [()])
        return rings

    def check_form(self, ring):
        self.assertIs(type(ring), tuple)
        led = []
        for row in ring:
            self.assertIs(type(row), tuple)
            self.assertIn((row[0], len(row)), (("split", 3), ("meet", 2)))
            for way in row[1:]:
                self.assertIs(type(way), tuple)
                self.assertTrue(all(is_number(part) for part in way))
                led.append(way[:2])
        wanted = [(k, 0) for k in range(len(ring))] + [(k, 1) for k, row in enumerate(ring) if row[0] == "meet"]
        self.assertEqual(sorted(led), sorted(wanted))


class TestRingsOf(RingCase):
    def test_of_the_one(self):
        for mapped in (ONE, (LEAF, LEAF), (PAIR, PAIR), (full_tree(4), full_tree(4)), (left_chain(40), left_chain(40))):
            self.assertEqual(self.check(mapped), [()])

    def test_by_hand(self):
        wanted = {
            "": [()],
            "a": [OF_A],
            "A": [OF_BACK],
            "b": [(), OF_A],
            "B": [(), OF_BACK],
            "abAB": [(), OF_A, ()],
            "baBA": [(), OF_BACK, ()],
            "aa": [(
                ("meet", (2, 1, 1)), ("split", (3, 0, 1), (0, 0, 0)), ("meet", (0, 1, 0)),
                ("split", (1, 0, 0), (2, 0, 0)),
            )],
        }
        for row, rings in wanted.items():
            self.assertEqual(self.check(map_of_row(row)), rings, row)

    def test_against_the_plain_reading(self):
        for mapped in small_maps(5) + some_maps(831, 60, 16) + cut_maps(832, 30):
            self.assertEqual(self.check(mapped), plain_rings(mapped))

    def test_great_maps(self):
        chance = Random(833)
        found = [(any_tree(chance, 60), any_tree(chance, 60)) for _ in range(6)]
        for mapped in found:
            rings = self.check(mapped)
            drawing = Drawing(mapped)
            while drawing.undoes():
                drawing.undo(drawing.undoes()[-1])
            self.assertEqual(drawing.rings(), rings)
            self.assertEqual(drawing.knots(), knots_in(rings))
        self.assertEqual(rings_of(found[0]), plain_rings(found[0]))

    def test_chains_40_deep(self):
        for one in chains(40):
            for other in chains(40):
                self.check((one, other))
        self.assertEqual(knots_in(rings_of((left_chain(40), right_chain(40)))), 78)
        self.assertEqual(rings_of((left_chain(40), right_chain(40))), rings_of(power(A_MOVE, 39)))

    def test_order_from_left_to_right(self):
        """Where a map rests, there are its loops; between them lie the others."""
        for mapped in small_maps(4) + some_maps(834, 60):
            drawing = PlainDrawing(mapped)
            while drawing.undoes():
                drawing.undo(drawing.undoes()[0])
            self.assertEqual([not ring for ring in rings_of(mapped)], [not knots for knots in drawing.in_order()])
            self.assertEqual([len(ring) for ring in rings_of(mapped)], [len(knots) for knots in drawing.in_order()])


class TestWhatStaysTheSame(RingCase):
    def test_trimmed_and_not_trimmed(self):
        chance = Random(835)
        for mapped in small_maps(4) + some_maps(836, 30) + [ONE, A_MOVE, B_MOVE]:
            rings = self.check(mapped)
            self.assertEqual(rings_of(trimmed(mapped)), rings)
            self.assertEqual(rings_of(cut_more(chance, mapped, 4)), rings)

    def test_side_by_side(self):
        found = some_maps(837, 30) + cut_maps(838, 6) + [ONE, A_MOVE, B_MOVE, (PAIR, PAIR)]
        for f, g in zip(found, found[::-1]):
            self.assertEqual(self.check(side_by_side(f, g)), chained(rings_of(f), rings_of(g)))
            self.assertEqual(self.check(side_by_side(f, f)), chained(rings_of(f), rings_of(f)))
            self.assertEqual(self.check(side_by_side(ONE, f)), chained([()], rings_of(f)))
            self.assertEqual(self.check(side_by_side(f, ONE)), chained(rings_of(f), [()]))

    def test_powers(self):
        for mapped in some_maps(839, 20, 9) + [ONE, A_MOVE, B_MOVE]:
            rings = self.check(mapped)
            for n in range(1, 10):
                its = rings_of(power(mapped, n))
                self.assertEqual([len(ring) for ring in its], [n * len(ring) for ring in rings])

    def test_backs(self):
        for mapped in small_maps(4) + some_maps(840, 30, 24) + cut_maps(841, 10):
            rings = self.check(mapped)
            self.assertEqual([len(ring) for ring in self.check(back(mapped))], [len(ring) for ring in rings])
            self.assertEqual(rings_of((mapped[1], mapped[0])), rings_of(back(mapped)))

    def test_where_one_stands(self):
        chance = Random(842)
        for mapped in some_maps(843, 40, 24) + [ONE, A_MOVE, B_MOVE]:
            many = chance.randint(1, 24)
            h = (any_tree(chance, many), any_tree(chance, many))
            self.assertEqual(rings_of(then(then(back(h), mapped), h)), rings_of(mapped))
        for row, by in zip(some_rows(844, 20, 0, 20), some_rows(845, 20, 0, 20)):
            moved = map_of_row(by[::-1].swapcase() + row + by)
            self.assertEqual(self.check(moved), rings_of(map_of_row(row)))

    def test_same_answers_behind_others(self):
        found = some_maps(846, 15, 24) + cut_maps(847, 10)
        before = copied(found)
        first = [copied(rings_of(mapped)) for mapped in found]
        for mapped in found:
            rings_of(mapped).clear()
        self.assertEqual([rings_of(mapped) for mapped in found[::-1]][::-1], first)
        self.assertEqual([rings_of(copied(mapped)) for mapped in found], first)
        self.assertEqual(found, before)

    def test_a_drawing_undone_does_not_change_what_is_told(self):
        for mapped in some_maps(848, 10):
            drawing = Drawing(mapped)
            rings = rings_of(mapped)
            while drawing.undoes():
                drawing.undo(drawing.undoes()[0])
                self.assertEqual(rings_of(mapped), rings)


class TestPlainReading(unittest.TestCase):
    """What the tests compare with is itself steady: the stretches cover the line, whatever is undone."""

    def test_stretches_cover_the_line(self):
        chance = Random(849)
        for mapped in some_maps(850, 15):
            drawing = PlainDrawing(mapped)
            while True:
                stretches = sorted(stretch for way in drawing.ways for stretch in way["stretches"])
                self.assertEqual([stretches[0][0], stretches[-1][1]], [0, 1])
                self.assertTrue(all(low[1] == high[0] for low, high in zip(stretches, stretches[1:])))
                if not drawing.undoes():
                    break
                drawing.undo(chance.choice(drawing.undoes()))
            self.assertLessEqual(len(drawing.knots()), 2 * len(parted(mapped[0])))


if __name__ == "__main__":
    unittest.main()
