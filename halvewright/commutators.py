"""How steep a map is at its ends, and the commutators of which it is put together."""

from halvewright.lengths import shortest
from halvewright.maps import back, growth, pieces, power, then
from halvewright.rows import move


def ends(mapped):
    """How steep the map is at the right side of 0 and at the left side of 1."""
    found = pieces(mapped)
    return (growth(found[0]), growth(found[-1]))


def commutator(f, g):
    """f, g, f back and g back, one behind another."""
    return then(then(f, g), then(back(f), back(g)))


def runs_of(row):
    """The row as pairs (a or b, times), times below 0 for their backs, the letters taking turns."""
    runs = []
    for letter in row:
        step = 1 if letter.islower() else -1
        if runs and runs[-1][0] == letter.lower():
            step += runs.pop()[1]
        runs.append((letter.lower(), step))
    return runs


def drawn_ahead(row, letter):
    """Pairs of maps whose commutators, one behind another, are those of the row, as all of the letter is drawn ahead.

    What was gone through is always some commutators, then x^i, then y^j, x
    being the letter's move and y the other one. Behind it x^n is drawn ahead of
    y^j: there comes the commutator of x^i, y^j, x^-i and of x^n.
    """
    x = move(letter)
    y = move("b" if letter == "a" else "a")
    pairs = []
    i, j = 0, 0
    for run, times in runs_of(row):
        if run != letter:
            j += times
            continue
        if j != 0:
            pairs.append((then(then(power(x, i), power(y, j)), power(x, -i)), power(x, times)))
        i += times
    return pairs


def commutators(mapped):
    """("made", pairs) of maps whose commutators, one behind another, are the map, or ("ends", e, e')."""
    e, other = ends(mapped)
    if (e, other) != (0, 0):
        return ("ends", e, other)
    row = shortest(mapped)
    # By the rarer letter they are at most half as many as the row's moves.
    moves = row.lower()
    return ("made", drawn_ahead(row, "a" if moves.count("a") < moves.count("b") else "b"))
