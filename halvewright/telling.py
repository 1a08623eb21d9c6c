"""The rings of a drawing, in order, and how each is told."""

from halvewright.strands import places_of
from halvewright.ways import goals_of, starts_of


def ways_at(ways, knot):
    """For each way at the knot, in order, the knot at its other end, and how much greater that one's level is."""
    found = []
    for goal in goals_of(knot):
        start = ways.starts[goal]
        found.append((start[:2], -len(ways.strands[start])))
    for start in starts_of(knot):
        found.append((ways.goals[start][:2], len(ways.strands[start])))
    return found


def all_ways(ways):
    """A dict from each knot to its ways."""
    return {knot: ways_at(ways, knot) for knot in ways.all_knots()}


def levels_from(around, knot):
    """The levels of all knots of the ring, begun at the knot, around being all ways: a dict in the order of numbers."""
    levels = {knot: 0}
    order = [knot]
    at = 0
    while at < len(order):
        here = order[at]
        for there, rise in around[here]:
            if there not in levels:
                levels[there] = levels[here] + rise
                order.append(there)
        at += 1
    return levels


def told_by(ways, levels):
    """How the ring is told by its knots' numbers and levels; the loop, which has none, as ()."""
    numbers = {knot: number for number, knot in enumerate(levels)}
    rows = []
    for knot in levels:
        row = [knot[0]]
        for start in starts_of(knot):
            goal = ways.goals[start]
            there = goal[:2]
            turns = len(ways.strands[start]) + levels[knot] - levels[there]
            row.append((numbers[there], goal[2], turns))
        rows.append(tuple(row))
    return tuple(rows)


def least_levels(ways, around, knots):
    """The levels by which the ring of these knots is told: those of the least telling of all."""
    # A ring has as many meets as splits, and a telling that begins with a meet is less than one with a split.
    found = [levels_from(around, knot) for knot in knots if knot[0] == "meet"]
    return min(found, key=lambda levels: told_by(ways, levels))


def knotted_rings(ways):
    """For each ring with knots the list of these."""
    around = all_ways(ways)
    found = []
    seen = set()
    for knot in around:
        if knot not in seen:
            ring = list(levels_from(around, knot))
            for other in ring:
                seen.add(other)
            found.append(ring)
    return found


def strand_of(ways, knots):
    """A strand of the ring of these knots; there is one, since no ring can lead around but by the mark."""
    found = [ways.strands[start] for knot in knots for start in starts_of(knot)]
    return [strands[0] for strands in found if strands][0]


def in_order(ways):
    """The rings from left to right: of each its knots, and its number among the loops, None where it has knots."""
    rings = [(knots, None) for knots in knotted_rings(ways)]
    strands = [strand_of(ways, knots) for knots, loop in rings]
    rings.extend([([], number) for number in range(len(ways.loops))])
    strands.extend([loop[0] for loop in ways.loops])
    places = places_of(strands)
    order = sorted(range(len(rings)), key=lambda k: places[k])
    return [rings[k] for k in order]


def levels_in_order(ways):
    """For each ring, from left to right, the levels by which it is told; of a loop none."""
    around = all_ways(ways)
    return [least_levels(ways, around, knots) if knots else {} for knots, loop in in_order(ways)]
