"""Papers: tuples that say something of maps, looked at whether they hold."""

from halvewright.commutators import commutator
from halvewright.errors import NoRow
from halvewright.lengths import length
from halvewright.maps import ONE, back, power, then, trimmed
from halvewright.parting import where_part
from halvewright.rings import rings_of
from halvewright.rows import map_of_row
from halvewright.runner import sent


def are_same(f, g):
    """Whether both send each point to the same."""
    return trimmed(f) == trimmed(g)


def do_part(f, g, p):
    """Whether the maps part at the point."""
    return sent(f, p) != sent(g, p)


def part_least(f, g, p):
    """Whether the point is the one that is told of those at which the maps part."""
    return where_part(f, g) == p


def is_row_of(f, text):
    """Whether the text is a row, and makes the map."""
    try:
        found = map_of_row(text)
    except NoRow:
        return False
    return are_same(f, found)


def is_short_row(f, text):
    """Whether the text is a row of the map with as few moves as can be."""
    return is_row_of(f, text) and len(text) == length(f)


def are_alike(f, g, h):
    """Whether g is h back, then f, then h."""
    return are_same(then(then(back(h), f), h), g)


def is_root(f, n, r):
    """Whether power n of r is the map."""
    return are_same(power(r, n), f)


def are_made(f, pairs):
    """Whether the commutators of the pairs, one behind another, are the map."""
    whole = ONE
    for one, other in pairs:
        whole = then(whole, commutator(one, other))
    return are_same(whole, f)


def are_unlike(f, g):
    """Whether the maps are alike by none."""
    return rings_of(f) != rings_of(g)


LOOKS = {
    "same": are_same, "part": do_part, "least": part_least, "row": is_row_of, "short": is_short_row,
    "alike": are_alike, "root": is_root, "made": are_made, "unlike": are_unlike,
}


def holds(paper):
    """Whether the paper holds."""
    word, *said = paper
    look = LOOKS[word]
    return look(*said)
