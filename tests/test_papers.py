"""Papers, promise 34."""

import unittest
from random import Random

from halvewright.alike import alike
from halvewright.commutators import commutator, commutators
from halvewright.lengths import length, shortest
from halvewright.maps import back, power, then, trimmed
from halvewright.papers import holds
from halvewright.parting import where_part
from halvewright.rings import rings_of
from halvewright.roots import root
from halvewright.rows import map_of_row, move
from halvewright.runner import sent
from samples import A_MOVE, B_MOVE, MOVES, ONE, PAIR, any_tree, copied, cut_more, some_maps, some_rows

POINTS = [(0, 0), (1, 0)] + [(n, d) for d in range(1, 6) for n in range(1, 2 ** d, 2)]
NO_ROWS = (
    " ", "x", "ab ", " ab", "a b", "abc", "a-", "-", "a^2", "A~", "1", "a\n", "\n", "aba.", "m0", "one", "=", "|",
    "x" * 60, "ab" * 29 + "c", "~" * 60, "a,b", "aabbAABB!",
)


def stood(f, h):
    return then(then(back(h), f), h)


def any_map(chance, most):
    many = chance.randint(1, most)
    return (any_tree(chance, many), any_tree(chance, many))


def behind(mapped):
    """The map with each of the moves behind it: other maps."""
    return [then(mapped, move(letter)) for letter in "abAB"]


class PaperCase(unittest.TestCase):
    def setUp(self):
        self.chance = Random(981)

    def yes(self, *paper):
        before = copied(paper)
        self.assertIs(holds(paper), True, paper)
        self.assertEqual(paper, before)

    def no(self, *paper):
        before = copied(paper)
        self.assertIs(holds(paper), False, paper)
        self.assertEqual(paper, before)

    def cut(self, mapped):
        return cut_more(self.chance, mapped, 3)


class TestSameAndPart(PaperCase):
    def test_same(self):
        for f in some_maps(982, 25, 24) + [ONE, A_MOVE, B_MOVE]:
            self.yes("same", f, f)
            self.yes("same", f, trimmed(f))
            self.yes("same", self.cut(f), self.cut(f))
            for g in behind(f):
                self.no("same", f, g)
                self.no("same", g, f)
                self.no("same", self.cut(g), self.cut(f))

    def test_part(self):
        for f, g in zip(some_maps(983, 20), some_maps(984, 20)):
            for p in POINTS:
                holding = sent(f, p) != sent(g, p)
                self.assertIs(holds(("part", f, g, p)), holding)
                self.assertIs(holds(("part", self.cut(g), self.cut(f), p)), holding)
                self.no("part", f, self.cut(f), p)
            self.no("part", f, g, (0, 0))
            self.no("part", f, g, (1, 0))
        self.yes("part", A_MOVE, ONE, (1, 1))
        self.yes("part", A_MOVE, ONE, (2 ** 99 + 1, 100))
        self.no("part", B_MOVE, ONE, (1, 1))
        self.no("part", B_MOVE, ONE, (2 ** 98 - 1, 100))

    def test_least(self):
        for f, g in list(zip(some_maps(985, 25), some_maps(986, 25))) + [(A_MOVE, ONE), (B_MOVE, A_MOVE)]:
            p = where_part(f, g)
            for other in POINTS:
                self.assertIs(holds(("least", f, g, other)), other == p)
                self.no("least", f, self.cut(f), other)
            if p is not None:
                self.yes("least", f, g, p)
                self.yes("least", self.cut(g), self.cut(f), p)
                self.no("least", f, g, (2 * p[0] + 1, p[1] + 1))


class TestRows(PaperCase):
    def test_rows(self):
        for text in some_rows(987, 25, 0, 60) + ["", "a", "abAB", "aA"]:
            f = map_of_row(text)
            self.yes("row", f, text)
            self.yes("row", self.cut(f), text)
            for letter in "abAB":
                self.no("row", f, text + letter)
                self.no("row", f, letter + text)
                self.no("row", then(f, move(letter)), text)
            self.yes("row", f, text[:-2] + "aA" + text[-2:])
            for k in range(0, len(text), 7):
                self.no("row", f, text[:k] + text[k + 1:])
                self.no("row", f, text[:k] + text[k].swapcase() + text[k + 1:])

    def test_short(self):
        for text in some_rows(988, 25, 0, 30) + ["", "a", "abAB"]:
            f = map_of_row(text)
            row = shortest(f)
            self.yes("short", f, row)
            self.yes("short", self.cut(f), row)
            self.assertIs(holds(("short", f, text)), len(text) == length(f))
            self.yes("row", f, row + "bB")
            self.no("short", f, row + "bB")
            self.no("short", f, "Aa" + row)
            for g in behind(f):
                self.no("short", g, row)
            if row:
                self.no("short", f, row[1:])

    def test_texts_that_are_no_rows(self):
        for f in (ONE, A_MOVE, map_of_row("ab")):
            for text in NO_ROWS:
                self.no("row", f, text)
                self.no("short", f, text)
        signs = "".join(map(chr, range(32, 127))).replace(chr(37), "") + "\n"
        for sign in signs:
            if sign not in "abAB":
                self.no("row", ONE, sign)
                self.no("row", A_MOVE, "a" + sign)
                self.no("short", A_MOVE, sign + "a")


class TestAlike(PaperCase):
    def test_alike(self):
        for f in some_maps(989, 25) + [A_MOVE, B_MOVE]:
            h = any_map(self.chance, 8)
            g = stood(f, h)
            self.yes("alike", f, g, h)
            self.yes("alike", g, f, back(h))
            self.yes("alike", self.cut(f), self.cut(g), self.cut(h))
            self.yes("alike", f, g, alike(f, g)[1])
            self.yes("alike", f, g, then(f, h))
            for other in behind(g):
                self.no("alike", f, other, h)
            for other in behind(f):
                self.no("alike", other, g, h)
            for by in behind(h):
                self.assertIs(holds(("alike", f, g, by)), stood(f, by) == g)
            self.assertIs(holds(("alike", g, f, h)), stood(g, h) == trimmed(f))
        self.no("alike", A_MOVE, stood(A_MOVE, B_MOVE), ONE)
        self.no("alike", A_MOVE, stood(A_MOVE, B_MOVE), back(B_MOVE))

    def test_unlike(self):
        for f, g in zip(some_maps(990, 30), some_maps(991, 30)):
            self.assertIs(holds(("unlike", f, g)), rings_of(f) != rings_of(g))
            self.no("unlike", f, stood(f, g))
            self.no("unlike", stood(f, g), self.cut(f))
            self.no("unlike", f, f)
        self.yes("unlike", A_MOVE, B_MOVE)
        self.yes("unlike", A_MOVE, MOVES["A"])
        self.yes("unlike", ONE, self.cut(B_MOVE))
        self.yes("unlike", power(A_MOVE, 2), power(A_MOVE, 3))
        self.no("unlike", ONE, (PAIR, PAIR))


class TestRoots(PaperCase):
    def test_root(self):
        for r in some_maps(992, 20, 6) + [A_MOVE, B_MOVE]:
            for n in range(1, 10):
                f = power(r, n)
                self.yes("root", f, n, r)
                self.yes("root", self.cut(f), n, self.cut(r))
                self.yes("root", f, n, root(f, n)[1])
                for other in behind(r):
                    self.no("root", f, n, other)
                for other in behind(f):
                    self.no("root", other, n, r)
                for m in range(1, 10):
                    self.assertIs(holds(("root", f, m, r)), m == n or trimmed(r) == ONE)
        for n in range(1, 10):
            self.yes("root", ONE, n, ONE)
            self.yes("root", (PAIR, PAIR), n, ONE)
            self.no("root", ONE, n, A_MOVE)


class TestMade(PaperCase):
    def some_pairs(self, many):
        return tuple((any_map(self.chance, 3), any_map(self.chance, 3)) for _ in range(many))

    def whole(self, pairs):
        whole = ONE
        for f, g in pairs:
            whole = then(whole, commutator(f, g))
        return whole

    def test_made(self):
        self.yes("made", ONE, ())
        self.yes("made", (PAIR, PAIR), ())
        self.no("made", A_MOVE, ())
        self.yes("made", map_of_row("abAB"), ((A_MOVE, B_MOVE),))
        self.no("made", map_of_row("abAB"), ((B_MOVE, A_MOVE),))
        self.no("made", map_of_row("abAB"), ((A_MOVE, B_MOVE), (A_MOVE, B_MOVE)))
        self.no("made", map_of_row("abAB"), ())
        self.yes("made", ONE, ((A_MOVE, A_MOVE), (ONE, B_MOVE)))

    def test_spoilt(self):
        for many in list(range(1, 13)) * 2:
            pairs = self.some_pairs(many)
            f = self.whole(pairs)
            self.yes("made", f, pairs)
            self.yes("made", self.cut(f), tuple((self.cut(one), self.cut(other)) for one, other in pairs))
            for other in behind(f):
                self.no("made", other, pairs)
            k = self.chance.randrange(many)
            for spoilt in (
                pairs[::-1], pairs[:k] + pairs[k + 1:], pairs[:k + 1] + pairs[k:], pairs[k:] + pairs[:k],
                pairs[:k] + (pairs[k][::-1],) + pairs[k + 1:],
                pairs[:k] + ((behind(pairs[k][0])[0], pairs[k][1]),) + pairs[k + 1:],
            ):
                self.assertIs(holds(("made", f, spoilt)), self.whole(spoilt) == f)

    def test_as_told(self):
        for f, g in zip(some_maps(993, 20, 10), some_maps(994, 20, 10)):
            whole = then(commutator(f, g), commutator(A_MOVE, f))
            pairs = tuple(commutators(whole)[1])
            self.yes("made", whole, pairs)
            for other in behind(whole):
                self.no("made", other, pairs)
            if pairs and whole != ONE:
                self.no("made", whole, ())


class TestSteadiness(PaperCase):
    def test_same_answers_behind_others(self):
        papers = []
        for f, g in zip(some_maps(995, 10), some_maps(996, 10)):
            papers.extend([
                ("same", f, g), ("part", f, g, (1, 1)), ("least", f, g, (1, 2)), ("row", f, "ab"), ("short", f, "abAB"),
                ("alike", f, stood(f, g), g), ("root", power(f, 2), 2, f), ("made", commutator(f, g), ((f, g),)),
                ("unlike", f, g),
            ])
        before = copied(papers)
        first = [holds(paper) for paper in papers]
        self.assertEqual([holds(paper) for paper in papers[::-1]][::-1], first)
        self.assertEqual(papers, before)
        self.assertEqual(set(map(type, first)), {bool})


if __name__ == "__main__":
    unittest.main()
