"""Closed drawings of maps, and how they are undone."""

from halvewright.errors import NoUndo
from halvewright.strands import WHOLE_LINE, halves, joined
from halvewright.telling import in_order, levels_in_order, told_by
from halvewright.trees import stretches
from halvewright.ways import Ways


def parts_of_joints(tree):
    """A dict from each part of a joint, ("leaf", k) or ("joint", k), to (joint, side), and the top, which is none."""
    found = {}
    standing = []
    for k, (n, d) in enumerate(stretches(tree)):
        standing.append((d, ("leaf", k), k))
        # As in a tree that is built from its leaves: one as deep as the one
        # ahead is that one's right part.
        while len(standing) > 1 and standing[-1][0] == standing[-2][0]:
            deep, right, last = standing.pop()
            deep, left, joint = standing.pop()
            found[left] = (joint, 0)
            found[right] = (joint, 1)
            standing.append((deep - 1, ("joint", joint), last))
    return (found, standing[0][1])


def drawn(mapped):
    """The ways of the map's drawing."""
    ways = Ways()
    one, top = parts_of_joints(mapped[0])
    other, other_top = parts_of_joints(mapped[1])
    if top[0] == "leaf":
        ways.loops.append([WHOLE_LINE])
        return ways
    for part, place in one.items():
        if part[0] == "joint":
            ways.lay(("split", *place), ("split", part[1], 0), [])
        else:
            ways.lay(("split", *place), ("meet", *other[part]), [])
    for part, place in other.items():
        if part[0] == "joint":
            ways.lay(("meet", part[1], 0), ("meet", *place), [])
    ways.lay(("meet", other_top[1], 0), ("split", top[1], 0), [WHOLE_LINE])
    return ways


def crosses(ways):
    """Each meet whose way out leads into a split, with this one."""
    found = [(start, goal) for start, goal in ways.goals.items() if start[0] == "meet" and goal[0] == "split"]
    return [("cross", start[1], goal[1]) for start, goal in found]


def pairs(ways):
    """Each split whose both ways lead straight into a meet, left into left and right into right, with this one."""
    found = []
    for (sort, k, side), goal in ways.goals.items():
        if sort == "split" and side == 0 and goal[0] == "meet" and goal[2] == 0:
            j = goal[1]
            if ways.goals[("split", k, 1)] == ("meet", j, 1):
                found.append(("pair", k, j))
    return found


def loops_beside(ways):
    """Each ring that is a loop, where the next one is a loop, too."""
    if len(ways.loops) < 2:
        return []
    rings = in_order(ways)
    return [("loops", i) for i in range(len(rings) - 1) if rings[i][0] == rings[i + 1][0] == []]


def undo_cross(ways, j, k):
    """Take meet j and split k away, where the way out of the one leads into the other."""
    parted = [halves(strand) for strand in ways.take_up(("meet", j, 0))]
    for side in (0, 1):
        ways.splice(("meet", j, side), [both[side] for both in parted], ("split", k, side))


def undo_pair(ways, k, j):
    """Take split k and meet j away, where both ways of the one lead straight into the other."""
    left = ways.take_up(("split", k, 0))
    right = ways.take_up(("split", k, 1))
    between = [joined(one, other) for one, other in zip(left, right)]
    ways.splice(("split", k, 0), between, ("meet", j, 0))


def undo_loops(ways, i):
    """Make one loop of the rings i and i + 1, which are loops."""
    rings = in_order(ways)
    left, right = rings[i][1], rings[i + 1][1]
    both = [joined(one, other) for one, other in zip(ways.loops[left], ways.loops[right])]
    ways.loops = [loop for k, loop in enumerate(ways.loops) if k != left and k != right] + [both]


class Drawing:
    """The closed drawing of a map, which can be undone step by step."""

    def __init__(self, mapped):
        self.ways = drawn(mapped)

    def undoes(self):
        """What can be undone now, sorted."""
        return sorted(crosses(self.ways) + loops_beside(self.ways) + pairs(self.ways))

    def undo(self, what):
        """Undo one of what can be undone now, or NoUndo."""
        if what not in self.undoes():
            raise NoUndo(0)
        if what[0] == "cross":
            undo_cross(self.ways, what[1], what[2])
        elif what[0] == "pair":
            undo_pair(self.ways, what[1], what[2])
        else:
            undo_loops(self.ways, what[1])

    def knots(self):
        """How many splits and meets there are."""
        return len(self.ways.all_knots())

    def rings(self):
        """The rings from left to right, each as it is told."""
        return [told_by(self.ways, levels) for levels in levels_in_order(self.ways)]
