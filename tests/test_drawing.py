"""Closed drawings and how they are undone, promises 26 to 29."""

import unittest
from random import Random

from halvewright.drawing import Drawing
from halvewright.errors import HalveError, NoUndo
from halvewright.maps import needless
from halvewright.rings import rings_of
from plaindrawings import PlainDrawing
from samples import (
    A_MOVE, B_MOVE, LEAF, ONE, PAIR, chains, copied, cut_maps, cut_more, full_tree, is_number, left_chain,
    needless_places, parted, right_chain, small_maps, some_maps,
)

# Two halves laid on two halves: all three sorts can be undone in turn.
LOOPS = (PAIR, PAIR)


def undone_by(drawing, choose):
    """Undo by what choose takes of what can be undone, till nothing is left; tell what was taken."""
    taken = []
    while drawing.undoes():
        what = choose(drawing.undoes())
        drawing.undo(what)
        taken.append(what)
    return taken


def state(drawing):
    return (drawing.undoes(), drawing.knots(), drawing.rings())


def turns_of(drawing, begin):
    return len(drawing.begun_at(begin)["stretches"])


class DrawingCase(unittest.TestCase):
    def refused(self, drawing, what):
        before = state(drawing)
        with self.assertRaises(NoUndo, msg=repr(what)) as caught:
            drawing.undo(what)
        self.assertIs(type(caught.exception), NoUndo)
        self.assertIsInstance(caught.exception, HalveError)
        self.assertTrue(is_number(caught.exception.at))
        self.assertEqual(caught.exception.at, 0)
        self.assertEqual(state(drawing), before)

    def check(self, drawing, plain):
        told = drawing.undoes()
        self.assertIs(type(told), list)
        self.assertTrue(all(type(what) is tuple for what in told))
        self.assertEqual(told, sorted(told))
        self.assertEqual(told, plain.undoes())
        self.assertTrue(is_number(drawing.knots()))
        self.assertEqual(drawing.knots(), len(plain.knots()))
        rings = drawing.rings()
        self.assertIs(type(rings), list)
        self.assertTrue(all(type(ring) is tuple for ring in rings))
        self.assertEqual(rings, plain.rings())


class TestAtFirst(DrawingCase):
    def test_of_one_leaf(self):
        for mapped in (ONE, (LEAF, LEAF)):
            drawing = Drawing(mapped)
            self.assertEqual(state(drawing), ([], 0, [()]))
            for what in (("cross", 0, 0), ("pair", 0, 0), ("loops", 0)):
                self.refused(drawing, what)

    def test_of_the_moves(self):
        drawing = Drawing(A_MOVE)
        self.assertEqual(drawing.undoes(), [("cross", 0, 1)])
        self.assertEqual(drawing.knots(), 4)
        drawing = Drawing(B_MOVE)
        self.assertEqual(drawing.undoes(), [("cross", 0, 0)])
        self.assertEqual(drawing.knots(), 6)

    def test_rings_by_hand(self):
        # The split's ways both lead into the meet, the meet's way out by the mark into the split.
        self.assertEqual(
            Drawing((PAIR, PAIR)).rings(), [(("meet", (1, 0, 1)), ("split", (0, 0, 0), (0, 1, 0)))]
        )
        drawing = Drawing(A_MOVE)
        drawing.undo(("cross", 0, 1))
        self.assertEqual(drawing.rings(), [(("meet", (0, 1, 1)), ("split", (1, 0, 1), (0, 0, 0)))])
        drawing = Drawing(B_MOVE)
        drawing.undo(("cross", 0, 0))
        self.assertEqual(drawing.rings()[0], ())
        self.assertEqual(len(drawing.rings()), 2)

    def test_knots_are_the_joints_of_both(self):
        found = small_maps(4) + some_maps(801, 40, 60) + cut_maps(802, 20)
        for mapped in found + [(one, other) for one in chains(40) for other in chains(40)]:
            joints = len(parted(mapped[0])) - 1
            self.assertEqual(Drawing(mapped).knots(), 2 * joints)

    def test_the_top_meet_and_the_top_split_and_the_needless_places(self):
        for mapped in small_maps(5) + some_maps(803, 40) + cut_maps(804, 40):
            if mapped == ONE:
                continue
            tops = [len(parted(tree[0])) - 1 for tree in mapped]
            wanted = [("cross", tops[1], tops[0])] + [("pair", k, k) for k in needless_places(mapped)]
            self.assertEqual(Drawing(mapped).undoes(), sorted(wanted))
            self.assertEqual(needless(mapped), needless_places(mapped))

    def test_one_ring_ahead_of_all(self):
        for mapped in small_maps(4) + some_maps(805, 20) + cut_maps(806, 10):
            drawing, plain = Drawing(mapped), PlainDrawing(mapped)
            self.check(drawing, plain)
            self.assertEqual(len(drawing.rings()), 1)


class TestStepByStep(DrawingCase):
    def check_all_the_way(self, mapped, choose):
        drawing, plain = Drawing(mapped), PlainDrawing(mapped)
        self.check(drawing, plain)
        while drawing.undoes():
            what = choose(drawing.undoes())
            knots, loops = drawing.knots(), drawing.rings().count(())
            if what[0] == "pair":
                self.assertEqual(
                    turns_of(plain, ("split", what[1], "left")), turns_of(plain, ("split", what[1], "right"))
                )
            self.assertIsNone(drawing.undo(what))
            plain.undo(what)
            self.check(drawing, plain)
            if what[0] == "loops":
                self.assertEqual((drawing.knots(), drawing.rings().count(())), (knots, loops - 1))
            else:
                self.assertEqual(drawing.knots(), knots - 2)
            self.refused_when_done(drawing, what)
        self.assertEqual(drawing.rings(), rings_of(mapped))

    def refused_when_done(self, drawing, what):
        # Of three loops two are still beside one another, when two have become one.
        if what not in drawing.undoes():
            self.refused(drawing, what)
        else:
            self.assertEqual(what[0], "loops")

    def test_small_maps_by_the_first_and_by_the_last(self):
        for mapped in small_maps(4):
            self.check_all_the_way(mapped, lambda told: told[0])
            self.check_all_the_way(mapped, lambda told: told[-1])

    def test_any_order(self):
        chance = Random(807)
        for mapped in some_maps(808, 25, 14) + cut_maps(809, 15) + [(full_tree(3), full_tree(3))]:
            self.check_all_the_way(mapped, chance.choice)

    def test_chains(self):
        for one in chains(12):
            for other in chains(12):
                self.check_all_the_way((one, other), lambda told: told[0])

    def test_every_order_of_small_ones(self):
        """All ways through what can be undone end with the same rings."""
        for mapped in small_maps(3) + [(full_tree(2), full_tree(2)), cut_more(Random(810), A_MOVE, 2)]:
            wanted = rings_of(mapped)
            waiting = [[]]
            while waiting:
                taken = waiting.pop()
                drawing = Drawing(mapped)
                for what in taken:
                    drawing.undo(what)
                found = drawing.undoes()
                if not found:
                    self.assertEqual(drawing.rings(), wanted)
                waiting.extend(taken + [what] for what in found)

    def test_many_orders_of_greater_ones(self):
        chance = Random(811)
        for mapped in some_maps(812, 25, 40) + cut_maps(813, 15, 8):
            wanted = rings_of(mapped)
            for choose in (lambda told: told[0], lambda told: told[-1], chance.choice, chance.choice):
                drawing = Drawing(mapped)
                taken = undone_by(drawing, choose)
                self.assertEqual(drawing.rings(), wanted)
                self.assertEqual(
                    drawing.knots(), Drawing(mapped).knots() - 2 * len([what for what in taken if what[0] != "loops"])
                )


class TestRefusals(DrawingCase):
    def test_numbers_that_are_not_there(self):
        for mapped in (ONE, A_MOVE, B_MOVE, LOOPS, (full_tree(3), left_chain(7))):
            drawing = Drawing(mapped)
            for what in (
                ("cross", 99, 0), ("cross", 0, 99), ("cross", -1, 0), ("cross", 99, 99), ("pair", 99, 0),
                ("pair", 0, 99), ("pair", 0, -1), ("pair", 99, 99), ("loops", 0), ("loops", 99), ("loops", -1),
            ):
                self.refused(drawing, what)

    def test_all_that_is_not_told(self):
        chance = Random(814)
        for mapped in small_maps(3) + some_maps(815, 8, 7) + cut_maps(816, 2, 2):
            drawing = Drawing(mapped)
            while True:
                numbers = range(len(parted(mapped[0])))
                forms = [(word, j, k) for word in ("cross", "pair") for j in numbers for k in numbers]
                forms.extend(("loops", i) for i in numbers)
                for what in forms:
                    if what not in drawing.undoes():
                        self.refused(drawing, what)
                if not drawing.undoes():
                    break
                drawing.undo(chance.choice(drawing.undoes()))

    def test_what_was_undone_already(self):
        drawing = Drawing((full_tree(2), full_tree(2)))
        self.assertEqual(drawing.undoes(), [("cross", 1, 1), ("pair", 0, 0), ("pair", 2, 2)])
        drawing.undo(("pair", 0, 0))
        self.refused(drawing, ("pair", 0, 0))
        drawing.undo(("cross", 1, 1))
        self.refused(drawing, ("cross", 1, 1))
        self.assertEqual(drawing.undoes(), [("cross", 2, 2), ("pair", 2, 2)])
        drawing.undo(("cross", 2, 2))
        self.refused(drawing, ("pair", 2, 2))
        self.assertEqual(state(drawing), ([("loops", 0), ("loops", 1)], 0, [(), (), ()]))
        drawing.undo(("loops", 1))
        self.refused(drawing, ("loops", 1))
        drawing.undo(("loops", 0))
        self.refused(drawing, ("loops", 0))
        self.assertEqual(state(drawing), ([], 0, [()]))

    def test_a_cross_or_a_pair_and_then_loops(self):
        drawing = Drawing(LOOPS)
        self.assertEqual(drawing.undoes(), [("cross", 0, 0), ("pair", 0, 0)])
        drawing.undo(("pair", 0, 0))
        self.assertEqual(state(drawing), ([], 0, [()]))
        drawing = Drawing(LOOPS)
        drawing.undo(("cross", 0, 0))
        self.assertEqual(state(drawing), ([("loops", 0)], 0, [(), ()]))
        drawing.undo(("loops", 0))
        self.assertEqual(state(drawing), ([], 0, [()]))

    def test_loops_with_a_ring_between_stay(self):
        # On the left half and on the last quarter all rests, between them a move is made.
        one, other = A_MOVE
        drawing = Drawing((((), (one, ())), ((), (other, ()))))
        undone_by(drawing, lambda told: told[0])
        rings = drawing.rings()
        self.assertEqual([ring == () for ring in rings], [True, False, True])
        self.refused(drawing, ("loops", 0))
        self.refused(drawing, ("loops", 1))


class TestApart(DrawingCase):
    def test_drawings_of_the_same_map_beside_one_another(self):
        chance = Random(817)
        for mapped in some_maps(818, 10) + cut_maps(819, 10):
            one, other, third = Drawing(mapped), Drawing(mapped), Drawing(copied(mapped))
            before = state(other)
            undone_by(one, chance.choice)
            self.assertEqual(state(other), before)
            self.assertEqual(state(third), before)
            undone_by(other, chance.choice)
            self.assertEqual(other.rings(), one.rings())
            self.assertEqual(state(third), before)

    def test_drawings_taking_turns(self):
        found = some_maps(820, 8) + cut_maps(821, 4)
        drawings = [Drawing(mapped) for mapped in found]
        plains = [PlainDrawing(mapped) for mapped in found]
        chance = Random(822)
        while any(drawing.undoes() for drawing in drawings):
            for drawing, plain in zip(drawings, plains):
                if drawing.undoes():
                    what = chance.choice(drawing.undoes())
                    drawing.undo(what)
                    plain.undo(what)
            for drawing, plain in zip(drawings, plains):
                self.assertEqual(drawing.undoes(), plain.undoes())
                self.assertEqual(drawing.rings(), plain.rings())

    def test_told_lists_are_the_askers_own(self):
        for mapped in (A_MOVE, LOOPS, (full_tree(2), full_tree(2)), (right_chain(5), left_chain(5))):
            drawing = Drawing(mapped)
            while True:
                before = (copied(drawing.undoes()), copied(drawing.rings()))
                drawing.undoes().clear()
                drawing.undoes().append(("pair", 7, 7))
                drawing.rings().clear()
                drawing.rings().append(())
                self.assertEqual((drawing.undoes(), drawing.rings()), before)
                if not before[0]:
                    break
                drawing.undo(before[0][-1])

    def test_nothing_handed_in_is_changed(self):
        found = some_maps(823, 10) + cut_maps(824, 10)
        before = copied(found)
        for mapped in found:
            drawing = Drawing(mapped)
            what = drawing.undoes()[0] if drawing.undoes() else None
            kept = copied(what)
            undone_by(drawing, lambda told: told[0])
            self.assertEqual(what, kept)
        self.assertEqual(found, before)

    def test_asking_changes_nothing(self):
        for mapped in some_maps(825, 15):
            drawing = Drawing(mapped)
            first = state(drawing)
            for _ in range(3):
                self.assertEqual((drawing.undoes(), drawing.knots(), drawing.rings()), first)
                self.assertEqual(drawing.rings(), first[2])


if __name__ == "__main__":
    unittest.main()
