"""How steep a map is at its ends, and the commutators of which it is put together."""

from halvewright.lengths import shortest
from halvewright.maps import back, growth, pieces, power, then
from halvewright.rows import move


def ends(mapped):
    """How steep the map is at the right side of 0 and at the left side of 1."""
    found = pieces(mapped)
    return (growth(found[0]), growth(found[-1]))


def commutator(f, g):
    """f, g, f back and g back, one behind another."""
    return then(then(f, g), then(back(f), back(g)))


def runs_of(row):
    """The row as pairs (a or b, times), times below 0 for their backs, the letters taking turns."""
    runs = []
    for letter in row:
        step = 1 if letter.islower() else -1
        if runs and runs[-1][0] == letter.lower():
            step += runs.pop()[1]
        runs.append((letter.lower(), step))
    return runs


def pairs_of(row):
    """Pairs of maps whose commutators, one behind another, are the map of the row, in which a and b cancel.

    What was gone through is always some commutators, then a^i, then b^j. Behind
    these a^n is drawn ahead of b^j: there comes the commutator of a^i b^j and a^n.
    For each of them there is a run of a and one of b: so they are at most half as
    many as the row's moves.
    """
    a, b = move("a"), move("b")
    pairs = []
    i, j = 0, 0
    for letter, times in runs_of(row):
        if letter == "b":
            j += times
            continue
        if j != 0:
            pairs.append((then(power(a, i), power(b, j)), power(a, times)))
        i += times
    return pairs


def commutators(mapped):
    """("made", pairs) of maps whose commutators, one behind another, are the map, or ("ends", e, e')."""
    e, other = ends(mapped)
    if (e, other) != (0, 0):
        return ("ends", e, other)
    # By a both ends change, by b the one at 1 alone: so where both are 0, each letter comes as often forth as back.
    return ("made", pairs_of(shortest(mapped)))
