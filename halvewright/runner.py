"""Points sent by maps, and how steep maps are at points."""

from halvewright.maps import growth, pieces
from halvewright.points import before, carried


def end_of(stretch):
    """The end of the stretch, as before takes it."""
    return (stretch[0] + 1, stretch[1])


def sent(mapped, point):
    """The point to which the map sends the point."""
    found = [piece for piece in pieces(mapped) if not before(end_of(piece[0]), point)]
    here, there = found[0]
    return carried(point, here, there)


def steep(mapped, point):
    """How steep the map is at the point's left side and at its right side, None where it has none."""
    left = None
    right = None
    for piece in pieces(mapped):
        here = piece[0]
        if before(here, point) and not before(end_of(here), point):
            left = growth(piece)
        if before(point, end_of(here)) and not before(point, here):
            right = growth(piece)
    return (left, right)
