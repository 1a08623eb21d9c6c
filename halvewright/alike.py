"""Maps that are the same but for where one stands."""

from halvewright.maps import back, then
from halvewright.rings import undone
from halvewright.sliding import slide
from halvewright.strands import laid_out
from halvewright.telling import levels_in_order


def first_unlike(rings, others):
    """The number of the first ring that isn't the same in both lists, None where there is none."""
    for k, (ring, other) in enumerate(zip(rings, others)):
        if ring != other:
            return k
    return None if len(rings) == len(others) else min(len(rings), len(others))


def rises_between(levels, others):
    """How often to rise over each knot, so that a ring has as many turns on each way as another one told alike."""
    wanted = list(others.values())
    rises = {knot: wanted[number] - levels[knot] for number, knot in enumerate(levels)}
    # As much more at all knots of the ring would do as well; by what lies in the middle it is done with few steps.
    middle = sorted(rises.values())[len(rises) // 2] if rises else 0
    return {knot: many - middle for knot, many in rises.items()}


def alike(f, g):
    """("alike", h), g being h back, then f, then h, or ("unlike", k), ring k being the first that isn't the same."""
    mine, its = undone(f), undone(g)
    k = first_unlike(mine.rings(), its.rings())
    if k is not None:
        return ("unlike", k)
    told, wanted = levels_in_order(mine.ways), levels_in_order(its.ways)
    for levels, others in zip(told, wanted):
        slide(mine.ways, rises_between(levels, others))
    # With as many turns on each way, the same strands pass both marks, from left to right.
    return ("alike", then(laid_out(mine.ways.all_strands()), back(laid_out(its.ways.all_strands()))))
