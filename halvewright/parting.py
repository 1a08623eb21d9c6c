"""Where two maps part, and where a map rests."""

from halvewright.maps import back, pieces, then
from halvewright.points import point
from halvewright.trees import cuts


def depth_of(p):
    """The depth of the point."""
    return p[1]


def where_part(f, g):
    """Of the points at which the maps part one of the least depth, of these the least; None where there is none."""
    # The maps part just where f, then g back, moves a point. Of each piece that it moves it moves
    # an end, too, and within the piece all points have a greater depth than its ends.
    one, other = then(f, back(g))
    found = [p for p, q in zip(cuts(one), cuts(other)) if p != q]
    # These rise, so of those of the least depth the first is the least.
    return min(found, key=depth_of, default=None)


def rests(mapped):
    """The greatest stretches on which the map leaves each point where it is, rising."""
    found = []
    for here, there in pieces(mapped):
        if here != there:
            continue
        begin, end = point(here[0], here[1]), point(here[0] + 1, here[1])
        if found and found[-1][1] == begin:
            begin = found.pop()[0]
        found.append((begin, end))
    return found
