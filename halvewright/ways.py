"""The ways of a drawing: each leads from a start to a goal, and has the strands of it that pass the mark, in order.

A knot is a tuple (sort, number), sort being "split" or "meet"; a start or a
goal is (sort, number, side). A split has its way in as goal 0, its left and
right way as starts 0 and 1; a meet has its left and right in as goals 0 and 1,
its way out as start 0.
"""

STARTS = {"split": 2, "meet": 1}
GOALS = {"split": 1, "meet": 2}


def starts_of(knot):
    """Where the knot's ways out begin, from the left."""
    sort, number = knot
    return [(sort, number, side) for side in range(STARTS[sort])]


def goals_of(knot):
    """Where the knot's ways in lead to, from the left."""
    sort, number = knot
    return [(sort, number, side) for side in range(GOALS[sort])]


class Ways:
    """The ways between knots, and the loops, each told by its strands alone."""

    def __init__(self):
        self.goals = {}
        self.starts = {}
        self.strands = {}
        self.loops = []

    def lay(self, start, goal, strands):
        """Put a way there."""
        self.goals[start] = goal
        self.starts[goal] = start
        self.strands[start] = strands

    def take_up(self, start):
        """Take the way from the start away, and tell its strands."""
        goal = self.goals.pop(start)
        del self.starts[goal]
        return self.strands.pop(start)

    def splice(self, goal, between, start):
        """Make one way of the one that leads to the goal, the strands between, and the one from the start."""
        first = self.starts[goal]
        strands = self.take_up(first) + between
        if first == start:
            self.loops.append(strands)
        else:
            last = self.goals[start]
            self.lay(first, last, strands + self.take_up(start))

    def all_knots(self):
        """The knots that are there."""
        return [(sort, number) for sort, number, side in self.goals if side == 0]

    def all_strands(self):
        """All strands that pass the mark, in any order."""
        found = list(self.strands.values()) + self.loops
        return [strand for strands in found for strand in strands]
