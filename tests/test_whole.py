"""The promise of the whole program, and how it behaves over all of it, promises 2 and 3."""

import unittest
from random import Random

from halvewright.alike import alike
from halvewright.breaks import breaks_of, map_of_breaks
from halvewright.cases import case_of, cases
from halvewright.commutators import commutator, commutators, ends
from halvewright.desk import Desk
from halvewright.drawing import Drawing
from halvewright.exprread import read_expr
from halvewright.exprwrite import expr_text
from halvewright.kinds import kinds_of
from halvewright.lengths import length, shortest
from halvewright.maps import back, needless, power, then, trimmed, trimmed_at
from halvewright.normal import map_of_normal, normal_of, normal_text, read_normal, settled
from halvewright.papers import holds
from halvewright.parting import rests, where_part
from halvewright.programs import map_of, maps_of, program_text, read_program
from halvewright.rings import rings_of
from halvewright.roots import root, turnings
from halvewright.rows import map_of_row, move
from halvewright.runner import sent, steep
from halvewright.trees import begins, cuts, read_tree, tree_text
from plainexprs import any_expr, plain_weight, ran
from samples import ONE, copied, corners, cut_more, led, needless_places, parted, plainly_trimmed, told

PROGRAM = "a = m0\nb = high(a)\nc = com(a, b)\nab = as(c, a^2) b~\nd = low(ab)"
NAMES = maps_of(read_program(PROGRAM))
WEIGHTS = {name: len(parted(mapped[0])) - 1 for name, mapped in NAMES.items()}


def some_exprs(seed, how_many, most):
    """Expressions with the names of the program, that weigh at most so much."""
    chance = Random(seed)
    found = []
    while len(found) < how_many:
        expr = any_expr(chance, chance.randint(1, 8), 6, tuple(NAMES), 4)
        if plain_weight(expr, WEIGHTS) <= most:
            found.append(expr)
    return found


def stood(f, h):
    return then(then(back(h), f), h)


def trimmed_anyhow(chance, mapped):
    while needless(mapped):
        mapped = trimmed_at(mapped, chance.choice(needless(mapped)))
    return mapped


def undone_anyhow(chance, mapped):
    drawing = Drawing(mapped)
    while drawing.undoes():
        drawing.undo(chance.choice(drawing.undoes()))
    return drawing.rings()


def desk():
    found = Desk()
    for row in PROGRAM.split("\n"):
        found.say(row)
    return found


class TestOneMap(unittest.TestCase):
    def test_the_four_tellings_are_one_map_at_every_point(self):
        for expr in some_exprs(1101, 60, 40):
            f = map_of(expr, NAMES)
            for number in corners(f):
                self.assertEqual(led(f, number), ran(expr, NAMES, number))
                self.assertEqual(sent(f, told(number)), told(led(f, number)))
            self.assertEqual(tuple(read_tree(tree_text(tree)) for tree in f), f)
            self.assertEqual(map_of_breaks(breaks_of(f)), f)
            self.assertEqual(map_of_row(shortest(f)), f)
            self.assertEqual(map_of_normal(normal_of(f)), f)
            self.assertEqual(map_of_normal(read_normal(normal_text(normal_of(f)))), f)
            self.assertEqual(map_of(read_expr(expr_text(expr)), NAMES), f)
            self.assertEqual(settled([("ab".index(c.lower()), 1 if c.islower() else -1) for c in shortest(f)]), normal_of(f))

    def test_the_desk_tells_the_same(self):
        answers = desk()
        for expr in some_exprs(1102, 40, 23):
            f, text = map_of(expr, NAMES), expr_text(expr)
            one, other = answers.say("trees " + text).split(" ")
            self.assertEqual((read_tree(one), read_tree(other)), f)
            self.assertEqual(read_normal(answers.say("normal " + text)), normal_of(f))
            self.assertEqual(answers.say("row " + text), shortest(f) or "-")
            self.assertEqual(answers.say(f"part {text} | {text}"), "same")

    def test_needless_cuts_in_any_order(self):
        chance = Random(1103)
        for expr in some_exprs(1104, 40, 40):
            f = map_of(expr, NAMES)
            more = cut_more(chance, f, 5)
            self.assertEqual(trimmed_anyhow(chance, more), f)
            self.assertEqual(trimmed(more), f)
            self.assertEqual(plainly_trimmed(more), f)
            self.assertEqual(needless_places(f), [])

    def test_fewest_moves(self):
        for expr in some_exprs(1105, 40, 40):
            f = map_of(expr, NAMES)
            many = length(f)
            self.assertEqual(len(shortest(f)), many)
            for letter in "abAB":
                self.assertEqual(abs(length(then(f, move(letter))) - many), 1)
                self.assertIn(case_of(f, letter), cases())


class TestTwoMaps(unittest.TestCase):
    def test_the_same_or_parted_at_a_point(self):
        found = some_exprs(1106, 60, 40)
        for expr, other in zip(found, found[1:]):
            f, g = map_of(expr, NAMES), map_of(other, NAMES)
            p = where_part(f, g)
            if p is None:
                self.assertEqual(f, g)
            else:
                self.assertNotEqual(f, g)
                self.assertNotEqual(sent(f, p), sent(g, p))
                self.assertIs(holds(("least", f, g, p)), True)
            self.assertIs(holds(("same", f, g)), p is None)

    def test_alike_just_where_drawings_come_to_the_same_rings(self):
        chance = Random(1107)
        found = some_exprs(1108, 40, 23)
        for expr, other in zip(found, found[1:]):
            f, g = map_of(expr, NAMES), map_of(other, NAMES)
            for one, two in ((f, g), (f, stood(f, g)), (stood(g, f), g), (f, back(f))):
                answer = alike(one, two)
                same = undone_anyhow(chance, one) == undone_anyhow(chance, two)
                self.assertEqual(answer[0], "alike" if same else "unlike")
                self.assertIs(holds(("unlike", one, two)), not same)
                if same:
                    self.assertIs(holds(("alike", one, two, answer[1])), True)

    def test_roots_and_turnings(self):
        for expr in some_exprs(1109, 30, 10):
            f = map_of(expr, NAMES)
            for n in range(1, 10):
                answer = root(f, n)
                has_root = all(t % n == 0 for t in turnings(f))
                self.assertEqual(answer[0], "root" if has_root else "none")
                if has_root:
                    self.assertIs(holds(("root", f, n, answer[1])), True)
                self.assertEqual(root(power(f, n), n), ("root", f))

    def test_commutators_just_where_the_ends_are_even(self):
        found = [map_of(expr, NAMES) for expr in some_exprs(1110, 60, 23)]
        found += [commutator(f, g) for f, g in zip(found[:20], found[1:])]
        for f in found:
            answer = commutators(f)
            at_ends = (steep(f, (0, 0))[1], steep(f, (1, 0))[0])
            self.assertEqual(ends(f), at_ends)
            if at_ends == (0, 0):
                self.assertIs(holds(("made", f, tuple(answer[1]))), True)
            else:
                self.assertEqual(answer, ("ends", *at_ends))

    def test_what_was_told_is_handed_on(self):
        for expr in some_exprs(1111, 25, 15):
            f = map_of(expr, NAMES)
            h = alike(f, stood(f, move("a")))[1]
            r = root(power(f, 3), 3)[1]
            self.assertEqual(then(h, back(h)), ONE)
            self.assertEqual(power(back(h), -2), power(h, 2))
            self.assertEqual(commutator(h, h), ONE)
            self.assertEqual(commutator(r, power(r, 2)), ONE)
            for one, other in commutators(commutator(f, move("b")))[1]:
                self.assertEqual(back(commutator(one, other)), commutator(other, one))


class TestSteadiness(unittest.TestCase):
    """Each question, asked again in another order, behind lists that were emptied, has the same answer."""

    def questions(self):
        found = [map_of(expr, NAMES) for expr in some_exprs(1112, 6, 15)]
        asked = []
        for f, g in zip(found, found[1:]):
            for ask in (
                breaks_of, shortest, length, normal_of, rests, rings_of, turnings, commutators, ends, needless, back,
                trimmed,
            ):
                asked.append((ask, f))
            for ask in (then, where_part, alike, commutator):
                asked.append((ask, f, g))
            for ask in (begins, cuts, kinds_of, tree_text):
                asked.append((ask, f[0]))
            asked.extend([(root, power(f, 2), 2), (power, f, 3), (sent, f, (1, 3)), (steep, f, (1, 3))])
            asked.extend([(case_of, f, "a"), (settled, [(3, 1), (0, -1)]), (holds, ("unlike", f, g)), (cases,)])
        asked.extend([(read_program, PROGRAM), (maps_of, read_program(PROGRAM)), (program_text, read_program(PROGRAM))])
        return asked

    def emptied(self, value):
        """Empty all lists and dicts within what was told."""
        if isinstance(value, (list, tuple)):
            for part in value:
                self.emptied(part)
        if isinstance(value, (list, dict)):
            value.clear()

    def test_another_order_behind_emptied_lists(self):
        asked = self.questions()
        before = [copied(values[1:]) for values in asked]
        first = []
        for ask, *values in asked:
            answer = ask(*values)
            first.append(dict(answer) if isinstance(answer, dict) else copied(answer))
            self.emptied(answer)
        order = list(range(len(asked)))
        for seed in (1113, 1114):
            Random(seed).shuffle(order)
            for k in order:
                ask, *values = asked[k]
                answer = ask(*values)
                self.assertEqual(answer, first[k], ask)
                self.emptied(answer)
        self.assertEqual([copied(values[1:]) for values in asked], before)

    def test_desks_and_drawings_hang_on_nothing_but_what_they_were_told(self):
        one, other = desk(), desk()
        exprs = some_exprs(1115, 10, 15)
        rows = [f"{word} {expr_text(expr)}" for word in ("trees", "row", "rings", "made") for expr in exprs]
        first = [one.say(row) for row in rows]
        other.say("later = m3")
        for expr in exprs:
            undone_anyhow(Random(1116), map_of(expr, NAMES))
        self.assertEqual([other.say(row) for row in rows[::-1]][::-1], first)
        self.assertEqual([one.say(row) for row in rows], first)


if __name__ == "__main__":
    unittest.main()
