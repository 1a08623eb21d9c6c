"""The mark of a drawing slid over its knots.

A knot is risen over once where the first strands of its ways out become the
last ones of its ways in: ways in have a turn more, ways out one less. It is
sunk beneath once where this is done the other way about.
"""

from halvewright.strands import halves, joined
from halvewright.ways import goals_of, starts_of


def over_a_knot(strands):
    """What the strands at one side of a knot are at its other side: one is two there, and two are one."""
    if len(strands) == 1:
        return list(halves(strands[0]))
    return [joined(strands[0], strands[1])]


def ways_in(ways, knot):
    """The strands of the knot's ways in, a list for each."""
    return [ways.strands[ways.starts[goal]] for goal in goals_of(knot)]


def ways_out(ways, knot):
    """The strands of the knot's ways out, a list for each."""
    return [ways.strands[start] for start in starts_of(knot)]


def rise(ways, knot):
    """Rise over the knot once, whose ways out have strands."""
    taken = []
    for strands in ways_out(ways, knot):
        taken.append(strands.pop(0))
    for strands, strand in zip(ways_in(ways, knot), over_a_knot(taken)):
        strands.append(strand)


def sink(ways, knot):
    """Sink beneath the knot once, whose ways in have strands."""
    taken = []
    for strands in ways_in(ways, knot):
        taken.append(strands.pop())
    for strands, strand in zip(ways_out(ways, knot), over_a_knot(taken)):
        strands.insert(0, strand)


def step_over(ways, times, needed, step):
    """Do the step at each knot so many times, those below 0 passed over, as the ways needed for it have strands.

    Where no way is to have less than no turns at the end, there is always a
    knot at which it can be done: every way around passes the mark.
    """
    waiting = {knot: many for knot, many in times.items() if many > 0}
    while waiting:
        for knot in list(waiting):
            while waiting[knot] > 0 and all(needed(ways, knot)):
                step(ways, knot)
                waiting[knot] -= 1
        waiting = {knot: many for knot, many in waiting.items() if many > 0}


def slide(ways, times):
    """Rise over each knot so many times, a dict from knots to numbers; below 0, sink beneath it."""
    step_over(ways, times, ways_out, rise)
    step_over(ways, {knot: -many for knot, many in times.items()}, ways_in, sink)
