"""Closed drawings for the tests, read slowly and plainly from the promises 26 to 29.

Nothing is shared with the program: a drawing is a list of ways, each a dict of
where it begins, where it leads, and the stretches, two fractions each, on which
it passes the mark, in the order in which it does.
"""

from fractions import Fraction

from samples import parted

WHOLE = (Fraction(0), Fraction(1))
# How each knot's ways are gone through, by the ends that they have there.
ENDS = {"split": ("in", "left", "right"), "meet": ("left in", "right in", "out")}


def hung(tree, first=0):
    """The tree's joints as a dict from number to its two parts, each ("joint", k) or ("leaf", k), and the top."""
    if tree == ():
        return {}, ("leaf", first)
    middle = first + len(parted(tree[0]))
    left, left_top = hung(tree[0], first)
    right, right_top = hung(tree[1], middle)
    return {**left, **right, middle - 1: (left_top, right_top)}, ("joint", middle - 1)


class PlainDrawing:
    def __init__(self, mapped):
        self.ways = []
        one, top = hung(mapped[0])
        other, other_top = hung(mapped[1])
        if top[0] == "leaf":
            self.put(None, None, [WHOLE])
            return
        meets = {
            part: ("meet", j, side)
            for j, parts in other.items() for part, side in zip(parts, ("left in", "right in"))
        }
        for k, parts in one.items():
            for part, side in zip(parts, ("left", "right")):
                goal = ("split", part[1], "in") if part[0] == "joint" else meets[part]
                self.put(("split", k, side), goal, [])
        for part, goal in meets.items():
            if part[0] == "joint":
                self.put(("meet", part[1], "out"), goal, [])
        self.put(("meet", other_top[1], "out"), ("split", top[1], "in"), [WHOLE])

    def put(self, begin, goal, stretches):
        self.ways.append({"begin": begin, "goal": goal, "stretches": stretches})

    def begun_at(self, begin):
        return next((way for way in self.ways if way["begin"] == begin), None)

    def led_to(self, goal):
        return next((way for way in self.ways if way["goal"] == goal), None)

    def knots(self):
        return sorted({way["begin"][:2] for way in self.ways if way["begin"]})

    def undoes(self):
        found = []
        for sort, k in self.knots():
            if sort == "meet":
                goal = self.begun_at(("meet", k, "out"))["goal"]
                if goal[0] == "split":
                    found.append(("cross", k, goal[1]))
            else:
                left = self.begun_at(("split", k, "left"))["goal"]
                right = self.begun_at(("split", k, "right"))["goal"]
                if left[2] == "left in" and right == ("meet", left[1], "right in"):
                    found.append(("pair", k, left[1]))
        rings = self.in_order()
        found.extend(("loops", i) for i, (ring, beside) in enumerate(zip(rings, rings[1:])) if ring == beside == [])
        return sorted(found)

    def tie(self, goal, between, begin):
        """The way to the goal, the stretches between and the way that begins there become one."""
        first, last = self.led_to(goal), self.begun_at(begin)
        self.ways.remove(first)
        if first is last:
            self.put(None, None, first["stretches"] + between)
        else:
            self.ways.remove(last)
            self.put(first["begin"], last["goal"], first["stretches"] + between + last["stretches"])

    def undo(self, what):
        if what[0] == "cross":
            way = self.begun_at(("meet", what[1], "out"))
            self.ways.remove(way)
            halves = [((low, (low + high) / 2), ((low + high) / 2, high)) for low, high in way["stretches"]]
            for number, side in enumerate(("left", "right")):
                between = [half[number] for half in halves]
                self.tie(("meet", what[1], side + " in"), between, ("split", what[2], side))
        elif what[0] == "pair":
            left = self.begun_at(("split", what[1], "left"))
            right = self.begun_at(("split", what[1], "right"))
            assert len(left["stretches"]) == len(right["stretches"])
            self.ways.remove(left)
            self.ways.remove(right)
            between = [beside(one, other) for one, other in zip(left["stretches"], right["stretches"])]
            self.tie(("split", what[1], "in"), between, ("meet", what[2], "out"))
        else:
            loops = sorted(
                (way for way in self.ways if way["begin"] is None), key=lambda way: way["stretches"]
            )
            number = self.in_order()[:what[1]].count([])
            one, other = loops[number], loops[number + 1]
            self.ways.remove(one)
            self.ways.remove(other)
            self.put(None, None, [beside(one["stretches"][0], other["stretches"][0])])

    def in_order(self):
        """The knots of each ring, from left to right, of a loop none; each passes the mark on one piece of the line."""
        found = [([], way["stretches"]) for way in self.ways if way["begin"] is None]
        left = self.knots()
        while left:
            ring = self.reached(left[0])
            found.append((ring, [
                stretch for way in self.ways if way["begin"] and way["begin"][:2] in ring for stretch in way["stretches"]
            ]))
            left = [knot for knot in left if knot not in ring]
        spans = sorted(
            (one_piece(stretches), number) for number, (ring, stretches) in enumerate(found)
        )
        one_piece([span for span, number in spans])
        return [sorted(found[number][0]) for span, number in spans]

    def reached(self, knot):
        ring = [knot]
        for here in ring:
            for there, _ in self.around(here):
                if there not in ring:
                    ring.append(there)
        return ring

    def around(self, knot):
        """Each way's other knot, and what is to be added to the level."""
        for end in ENDS[knot[0]]:
            if end.endswith("in"):
                way = self.led_to((*knot, end))
                yield way["begin"][:2], -len(way["stretches"])
            else:
                way = self.begun_at((*knot, end))
                yield way["goal"][:2], len(way["stretches"])

    def told_from(self, knot):
        numbers, levels = {knot: 0}, {knot: 0}
        number = 0
        while number < len(numbers):
            here = next(knot for knot, its in numbers.items() if its == number)
            for there, more in self.around(here):
                if there not in numbers:
                    numbers[there] = len(numbers)
                    levels[there] = levels[here] + more
            number += 1
        rows = {}
        for here, number in numbers.items():
            row = [here[0]]
            for end in ("left", "right") if here[0] == "split" else ("out",):
                way = self.begun_at((*here, end))
                there, side = way["goal"][:2], 1 if way["goal"][2] == "right in" else 0
                row.append((numbers[there], side, len(way["stretches"]) + levels[here] - levels[there]))
            rows[number] = tuple(row)
        return tuple(rows[number] for number in range(len(rows)))

    def rings(self):
        return [min((self.told_from(knot) for knot in ring), default=()) for ring in self.in_order()]


def beside(left, right):
    assert left[1] == right[0], (left, right)
    return (left[0], right[1])


def one_piece(stretches):
    """The stretch that these, side by side, are together."""
    rising = sorted(stretches)
    whole = rising[0]
    for stretch in rising[1:]:
        whole = beside(whole, stretch)
    return whole


def plain_rings(mapped):
    """The rings of the undone drawing, each time the last of what can be undone being undone."""
    drawing = PlainDrawing(mapped)
    while drawing.undoes():
        drawing.undo(drawing.undoes()[-1])
    return drawing.rings()
