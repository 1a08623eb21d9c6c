"""Trees that cut the line: () is a leaf, (left, right) a joint.

All is done by loops over lists of what waits, since a tree may be too deep
for functions that call themselves.
"""

from halvewright.errors import NoTree
from halvewright.points import point

MOST_BRACKETS = 100


def stretches(tree):
    """For each leaf (n, d): its stretch begins at n / 2 ** d, and is 1 / 2 ** d long."""
    found = []
    waiting = [(tree, 0, 0)]
    while waiting:
        part, n, d = waiting.pop()
        if part == ():
            found.append((n, d))
        else:
            left, right = part
            waiting.append((right, 2 * n + 1, d + 1))
            waiting.append((left, 2 * n, d + 1))
    return found


def leaves(tree):
    """How many leaves the tree has."""
    return len(stretches(tree))


def depth(tree):
    """The most joints that a leaf is beneath."""
    return max([d for n, d in stretches(tree)])


def begins(tree):
    """For each leaf the point at which its stretch begins, and how many joints it is beneath."""
    return [(point(n, d), d) for n, d in stretches(tree)]


def cuts(tree):
    """The points at which the tree's joints cut, rising."""
    return [where for where, d in begins(tree)[1:]]


def filled(depths, parts):
    """The tree whose leaf k is beneath depths[k] joints, with parts[k] in this leaf's place."""
    standing = []
    for d, part in zip(depths, parts):
        standing.append((d, part))
        # What stands unjoined are left parts, each deeper than the one ahead
        # of it: so one as deep as the one ahead is that one's right part.
        while len(standing) > 1 and standing[-1][0] == standing[-2][0]:
            right = standing.pop()
            left = standing.pop()
            standing.append((left[0] - 1, (left[1], right[1])))
    return standing[0][1]


def tree_of(found):
    """The tree whose leaves have the stretches found."""
    return filled([d for n, d in found], [()] * len(found))


def with_parts(tree, parts):
    """The tree with its leaf k exchanged for parts[k]."""
    return filled([d for n, d in stretches(tree)], parts)


def parts_beneath(tree, other):
    """For each leaf of tree what other has in its place, a leaf where other cuts no further."""
    found = []
    waiting = [(tree, other)]
    while waiting:
        mine, its = waiting.pop()
        if mine == ():
            found.append(its)
        else:
            left, right = its or ((), ())
            waiting.append((mine[1], right))
            waiting.append((mine[0], left))
    return found


def both(one, other):
    """The tree that cuts just where one of the two does."""
    return with_parts(one, parts_beneath(one, other))


def grown(tree, k, other):
    """The tree with its leaf k exchanged for other."""
    parts = [()] * leaves(tree)
    parts[k] = other
    return with_parts(tree, parts)


def tree_text(tree):
    """The tree's text."""
    signs = []
    waiting = [tree]
    while waiting:
        part = waiting.pop()
        if part is None:
            signs.append(")")
        elif part == ():
            signs.append(".")
        else:
            signs.append("(")
            waiting.extend([None, part[1], part[0]])
    return "".join(signs)


def may_follow(sign, waiting):
    """Whether the sign may stand next, where waiting holds the parts of the joints not closed."""
    parts = len(waiting[-1]) if waiting else 0
    if sign == ")":
        return parts == 2
    if sign == "(":
        return parts < 2 and len(waiting) < MOST_BRACKETS
    return sign == "." and parts < 2


def read_tree(text):
    """The tree that the text tells, or NoTree."""
    waiting = []
    whole = None
    for at, sign in enumerate(text):
        if whole is not None or not may_follow(sign, waiting):
            raise NoTree(at)
        if sign == "(":
            waiting.append([])
            continue
        part = () if sign == "." else tuple(waiting.pop())
        if waiting:
            waiting[-1].append(part)
        else:
            whole = part
    if whole is None:
        raise NoTree(len(text))
    return whole
