"""Rows of the moves a, b, A, B, and the numbered moves."""

from halvewright.errors import NoRow
from halvewright.maps import ONE, back, then

LETTERS = "abAB"
FIRST_MOVE = ((((), ()), ()), ((), ((), ())))


def numbered(n):
    """The map of move n, the n times high one of move 0."""
    one, other = FIRST_MOVE
    for k in range(n):
        one = ((), one)
        other = ((), other)
    return (one, other)


def move(letter):
    """The map of the move a or b, or of its back, A or B."""
    forth = numbered("ab".index(letter.lower()))
    return forth if letter.islower() else back(forth)


def map_of_row(text):
    """The map of the row's moves, one behind another, or NoRow."""
    for at, letter in enumerate(text):
        if letter not in LETTERS:
            raise NoRow(at)
    whole = ONE
    for letter in text:
        whole = then(whole, move(letter))
    return whole


def row_of_number(n):
    """A row of move n, of at most 2 n + 1 letters."""
    if n == 0:
        return "a"
    # Between A and a, each move from b on becomes the one with the next number.
    return "A" * (n - 1) + "b" + "a" * (n - 1)
