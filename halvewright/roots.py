"""The turnings of a map's rings, and its roots."""

from halvewright.maps import back, then
from halvewright.rings import rings_of, undone
from halvewright.sliding import slide
from halvewright.strands import laid_out
from halvewright.telling import levels_in_order
from halvewright.turning import all_parts, turning


def turnings(mapped):
    """The turning of each ring of the map's undone drawing, from left to right."""
    return [turning(ring) for ring in rings_of(mapped)]


def rises_of_part(levels, ring, n):
    """How often to rise over each knot, so that the ring, told by these levels, is turned by an n-th part."""
    images, rises = all_parts(ring)[n]
    knots = list(levels)
    return {knot: rises[k] + levels[knots[images[k]]] - levels[knot] for k, knot in enumerate(knots)}


def root(mapped, n):
    """("root", r), power n of r being the map, or ("none", k, t), where n doesn't divide ring k's turning t."""
    drawing = undone(mapped)
    rings = drawing.rings()
    for k, ring in enumerate(rings):
        if turning(ring) % n != 0:
            return ("none", k, turning(ring))
    strands = drawing.ways.all_strands()
    told = levels_in_order(drawing.ways)
    for ring, levels in zip(rings, told):
        if ring:
            slide(drawing.ways, rises_of_part(levels, ring, n))
    # The same strands pass the mark again, an n-th part of a turn ahead.
    return ("root", then(laid_out(strands), back(laid_out(drawing.ways.all_strands()))))
