"""Strands: what passes the mark of a drawing, each on a stretch of the line.

A strand is a tuple of pieces (here, there), as a map's are: here are stretches
of the whole line, side by side, and there those of the strand's own line, onto
which they are laid.
"""

from halvewright.maps import doubled, is_needless
from halvewright.trees import tree_of

WHOLE_LINE = (((0, 0), (0, 0)),)


def first_stretch(strand):
    """The first of the stretches of the whole line on which the strand lies."""
    return strand[0][0]


def cut_once(here):
    """The two pieces that come where a strand of a single piece, the stretch here, is cut at half."""
    n, d = here
    return (((2 * n, d + 1), (0, 1)), ((2 * n + 1, d + 1), (1, 1)))


def halves(strand):
    """The two strands on the left and on the right half of the strand's own line."""
    pieces = cut_once(first_stretch(strand)) if len(strand) == 1 else strand
    found = ([], [])
    for here, (n, d) in pieces:
        side = n >> (d - 1)
        found[side].append((here, (n - (side << (d - 1)), d - 1)))
    return (tuple(found[0]), tuple(found[1]))


def joined(left, right):
    """The strand whose halves are these two, which lie side by side."""
    found = [(here, (n, d + 1)) for here, (n, d) in left]
    found.extend([(here, (n + (1 << d), d + 1)) for here, (n, d) in right])
    if len(found) == 2 and is_needless(found[0], found[1]):
        return (doubled(found[0]),)
    return tuple(found)


def places_of(strands):
    """For each strand a number that is greater, the further right it lies."""
    found = [first_stretch(strand) for strand in strands]
    deepest = max([d for n, d in found])
    return [n << (deepest - d) for n, d in found]


def laid_out(strands):
    """The map of the line onto the strands' own lines, which are laid out from left to right by a tree.

    For as many strands it is always the same tree: so one such map and the
    back of another lead from the strands of the one to those of the other.
    """
    places = places_of(strands)
    order = sorted(range(len(strands)), key=lambda k: places[k])
    pieces = [piece for k in order for piece in strands[k]]
    whole = tree_of([there for here, there in strands[order[-1]]])
    for k in order[-2::-1]:
        whole = (tree_of([there for here, there in strands[k]]), whole)
    return (tree_of([here for here, there in pieces]), whole)
