"""Cases: how a move behind a map changes the kind of one joint."""

from halvewright.kinds import kinds_of, worth
from halvewright.maps import trimmed
from halvewright.trees import grown, stretches

TURNS = (
    ("a", "left", "last"), ("a", "left", "far"), ("a", "left", "near"),
    ("b", "bare", "last"), ("b", "bare", "far"), ("b", "full", "near"),
)
PARTNERS = ("last", "far", "near", "left", "bare", "full")
PAIR = ((), ())
# The stretches of the joints that a letter's move needs in the tree other, from the top down.
NEEDED = {
    "a": ((0, 0), (0, 1)),
    "A": ((0, 0), (1, 1)),
    "b": ((0, 0), (1, 1), (2, 2)),
    "B": ((0, 0), (1, 1), (3, 2)),
}


def with_change(letter, was, becomes, partner):
    """The case with its change."""
    return (letter, was, becomes, partner, worth(becomes, partner) - worth(was, partner))


def cases():
    """All cases."""
    found = []
    for letter, was, becomes in TURNS:
        for partner in PARTNERS:
            found.append(with_change(letter, was, becomes, partner))
            found.append(with_change(letter.upper(), becomes, was, partner))
    return found


def cut_for(mapped, letter):
    """The map cut as little more as the letter's move needs."""
    one, other = mapped
    for stretch in NEEDED[letter]:
        found = stretches(other)
        # With all above it there, a joint lacks just where a leaf has its stretch.
        if stretch in found:
            k = found.index(stretch)
            one, other = grown(one, k, PAIR), grown(other, k, PAIR)
    return (one, other)


def turned_at_top(tree, letter):
    """The tree whose top and left part are turned to top and right part, by a great letter the other way about."""
    if letter.islower():
        (left, middle), right = tree
        return (left, (middle, right))
    left, (middle, right) = tree
    return ((left, middle), right)


def turned(tree, letter):
    """What the letter's move makes of the tree other."""
    if letter.lower() == "a":
        return turned_at_top(tree, letter)
    left, right = tree
    return (left, turned_at_top(right, letter))


def case_of(mapped, letter):
    """The case of the map and the letter's move behind it."""
    one, other = cut_for(trimmed(mapped), letter)
    was, becomes, partners = kinds_of(other), kinds_of(turned(other, letter)), kinds_of(one)
    changed = [k for k in range(len(was)) if was[k] != becomes[k]]
    k = changed[0]
    return with_change(letter, was[k], becomes[k], partners[k])
