"""How few moves make a map, and a row of so few."""

from halvewright.kinds import kinds_of, worth
from halvewright.maps import then, trimmed
from halvewright.rows import LETTERS, move


def length(mapped):
    """The least number of moves in a row of the map."""
    one, other = trimmed(mapped)
    return sum([worth(kind, partner) for kind, partner in zip(kinds_of(one), kinds_of(other))])


def step_nearer(mapped, many):
    """A letter whose move behind the map makes its length less than many, and the map that comes."""
    # Each move changes the length by one, and one of the four at least makes it less.
    for letter in LETTERS:
        nearer = then(mapped, move(letter))
        if length(nearer) < many:
            break
    return (letter, nearer)


def shortest(mapped):
    """A row of the map with as few moves as its length."""
    row = ""
    rest = mapped
    for many in range(length(mapped), 0, -1):
        letter, rest = step_nearer(rest, many)
        # What leads from the map to the one leads, backwards, from the one to the map.
        row = letter.swapcase() + row
    return row
