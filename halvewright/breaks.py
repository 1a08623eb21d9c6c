"""Lists of points: what a map's breaks are, and the map that such a list tells."""

from halvewright.errors import NoBreaks
from halvewright.maps import growth, pieces, trimmed_of_pieces
from halvewright.points import before, gap, point

BEGIN = ((0, 0), (0, 0))
END = ((1, 0), (1, 0))


def breaks_of(mapped):
    """Both ends and each point at which the map bends, with where it is sent, rising."""
    found = []
    ahead = None
    for piece in pieces(mapped):
        here, there = piece
        if growth(piece) != ahead:
            found.append((point(here[0], here[1]), point(there[0], there[1])))
        ahead = growth(piece)
    return tuple(found + [END])


def may_stand_behind(ahead, pair):
    """Whether a map may be even from the pair ahead to this one."""
    if not (before(ahead[0], pair[0]) and before(ahead[1], pair[1])):
        return False
    # Both ways are told with odd n, so just these must be the same.
    return gap(ahead[0], pair[0])[0] == gap(ahead[1], pair[1])[0]


def look_at(breaks):
    """Refuse a list of points that tells no map."""
    for at, pair in enumerate(breaks):
        fits = (pair == BEGIN) if at == 0 else may_stand_behind(breaks[at - 1], pair)
        if not fits:
            raise NoBreaks(at)
    if len(breaks) == 0 or breaks[-1] != END:
        raise NoBreaks(len(breaks))


def landing(here, ahead, behind):
    """The stretch onto which here is laid between two neighbouring pairs, None where there is none.

    There is none where here goes beyond the pair behind, or comes to lie
    across a cut that is greater than itself.
    """
    n, d = here
    if before(behind[0], (n + 1, d)):
        return None
    (x, xd), (y, yd) = ahead
    deep = d - gap(ahead[0], behind[0])[1] + gap(ahead[1], behind[1])[1]
    # How far the stretch is moved, in lengths of the one it comes onto: moved / whole.
    moved = (y << (deep + xd)) - (x << (d + yd))
    whole = 1 << (xd + yd)
    return (n + moved // whole, deep) if moved % whole == 0 else None


def map_of_breaks(breaks):
    """The map that is even between each two neighbouring pairs, or NoBreaks."""
    look_at(breaks)
    found = []
    waiting = [(0, 0)]
    at = 0
    while waiting:
        here = waiting.pop()
        while not before(here, breaks[at + 1][0]):
            at += 1
        there = landing(here, breaks[at], breaks[at + 1])
        if there is None:
            n, d = here
            waiting.append((2 * n + 1, d + 1))
            waiting.append((2 * n, d + 1))
        else:
            found.append((here, there))
    # Pairs at which the map doesn't bend may have cut more than it needs.
    return trimmed_of_pieces(found)
