"""Maps: tuples (one, other) of two trees with as many leaves.

A piece of a map is a tuple (here, there): the stretches of leaf k of one and
of leaf k of other, each told as (n, d), begin n / 2 ** d and length 1 / 2 ** d.
"""

from halvewright.errors import NoMap
from halvewright.trees import leaves, parts_beneath, stretches, tree_of, with_parts

ONE = ((), ())


def pieces(mapped):
    """The pieces of the map, from left to right."""
    one, other = mapped
    return list(zip(stretches(one), stretches(other)))


def map_of_pieces(found):
    """The map that has these pieces, not trimmed."""
    return (tree_of([here for here, there in found]), tree_of([there for here, there in found]))


def growth(piece):
    """The e for which lengths become 2 ** e times as great on the piece."""
    here, there = piece
    return here[1] - there[1]


def are_one_joint(left, right):
    """Whether two neighbouring stretches are the two halves of one."""
    return left[1] == right[1] and left[0] & 1 == 0


def is_needless(left, right):
    """Whether the cut between two neighbouring pieces is needless."""
    return are_one_joint(left[0], right[0]) and are_one_joint(left[1], right[1])


def doubled(piece):
    """The piece of which this one is a half, in both trees."""
    here, there = piece
    return ((here[0] >> 1, here[1] - 1), (there[0] >> 1, there[1] - 1))


def needless(mapped):
    """The needless places of the map, rising."""
    found = pieces(mapped)
    return [k for k in range(len(found) - 1) if is_needless(found[k], found[k + 1])]


def trimmed_at(mapped, k):
    """The map with its needless place k taken out, and no other."""
    found = pieces(mapped)
    return map_of_pieces(found[:k] + [doubled(found[k])] + found[k + 2:])


def trimmed_of_pieces(found):
    """The trimmed map that has these pieces, where each needless cut is taken out."""
    kept = []
    for piece in found:
        kept.append(piece)
        while len(kept) > 1 and is_needless(kept[-2], kept[-1]):
            kept.pop()
            kept.append(doubled(kept.pop()))
    return map_of_pieces(kept)


def trimmed(mapped):
    """The same map without needless places."""
    return trimmed_of_pieces(pieces(mapped))


def made(one, other):
    """The trimmed map of the two trees, or NoMap."""
    many = leaves(one)
    others = leaves(other)
    if many != others:
        raise NoMap(min(many, others))
    return trimmed((one, other))


def then(f, g):
    """Each point sent by f, and from where it comes by g."""
    first = with_parts(f[0], parts_beneath(f[1], g[0]))
    second = with_parts(g[1], parts_beneath(g[0], f[1]))
    return trimmed((first, second))


def back(f):
    """Each point sent to the one that f sends to it."""
    return trimmed((f[1], f[0]))


def power(f, n):
    """The map n times one behind the other, for n below 0 its back so often."""
    step = f if n > 0 else back(f)
    many = abs(n)
    whole = ONE
    while many > 0:
        if many & 1 == 1:
            whole = then(whole, step)
        many >>= 1
        if many > 0:
            step = then(step, step)
    return whole


def low(f):
    """The left half of the line laid as f lays the whole."""
    return trimmed(((f[0], ()), (f[1], ())))


def high(f):
    """The right half of the line laid as f lays the whole."""
    return trimmed((((), f[0]), ((), f[1])))
