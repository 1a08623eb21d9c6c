"""The kinds of joints and their worths for the tests, read a second time from the document."""

from samples import LEAF

# The worths of 23, each row and each column in the order last, far, near, left, bare, full.
TABLE = """
last 0 2 2 1 1 3
far  2 2 2 1 1 3
near 2 2 2 1 3 3
left 1 1 1 2 2 2
bare 1 1 3 2 2 4
full 3 3 3 2 4 4
"""


def plain_joints(tree, left=True, right=True, top=True):
    """For each joint in order: whether it is on the left side, on the right one, the top, and its right part."""
    if tree == LEAF:
        return []
    return (
        plain_joints(tree[0], left, False, False)
        + [(left, right, top, tree[1])]
        + plain_joints(tree[1], False, right, False)
    )


def plain_kinds(tree):
    joints = plain_joints(tree)
    neither = [not left and not right for left, right, _, _ in joints]
    found = []
    for k, (left, right, top, right_part) in enumerate(joints):
        later = neither[k + 1:]
        if k == 0:
            found.append("first")
        elif left:
            found.append("left")
        elif right and not top:
            found.append("last" if not any(later) else "near" if later[0] else "far")
        else:
            found.append("bare" if right_part == LEAF else "full")
    return found


def plain_worth(kind, other):
    if "first" in (kind, other):
        return 0
    rows = [row.split() for row in TABLE.strip().split("\n")]
    order = [row[0] for row in rows]
    return int(rows[order.index(kind)][1 + order.index(other)])
