"""The kinds of a tree's joints, and the worth of two kinds."""

from halvewright.trees import begins

WORTHS = {
    ("first", "first"): 0,
    ("last", "last"): 0, ("last", "far"): 2, ("last", "near"): 2,
    ("far", "far"): 2, ("far", "near"): 2, ("near", "near"): 2,
    ("left", "last"): 1, ("left", "far"): 1, ("left", "near"): 1,
    ("left", "left"): 2, ("left", "bare"): 2, ("left", "full"): 2,
    ("bare", "last"): 1, ("bare", "far"): 1, ("bare", "near"): 3, ("bare", "bare"): 2, ("bare", "full"): 4,
    ("full", "last"): 3, ("full", "far"): 3, ("full", "near"): 3, ("full", "full"): 4,
}


def is_within(cut):
    """Whether the joint that cuts at this point is on neither side."""
    n, d = cut
    return n > 1 and n + 1 < 1 << d


def right_kind(within):
    """The kind of a joint on the right side, within telling of each later one whether it is on neither side."""
    if within and within[0]:
        return "near"
    return "far" if any(within) else "last"


def kinds_of(tree):
    """The kinds of the tree's joints, in order."""
    # Joint k cuts where leaf k + 1 begins, which is its right part where it is no deeper than the cut.
    joints = begins(tree)[1:]
    within = [is_within(cut) for cut, deep in joints]
    found = []
    for k, (cut, deep) in enumerate(joints):
        if k == 0:
            found.append("first")
        elif within[k]:
            found.append("full" if deep > cut[1] else "bare")
        elif cut[0] == 1:
            found.append("left")
        else:
            found.append(right_kind(within[k + 1:]))
    return found


def worth(kind, other):
    """The worth of two kinds, either way round."""
    if (kind, other) in WORTHS:
        return WORTHS[(kind, other)]
    return WORTHS[(other, kind)]
