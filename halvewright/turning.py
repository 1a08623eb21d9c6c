"""Turns of rings, as these are told: each leads knots to knots and ways to ways.

A turn is a tuple (images, rises) of two lists: for each knot, by its number,
the one to which it is led, and its whole number u.
"""


def links_of(ring):
    """For each knot its three ways, each told by the knot at its other end, how it ends there, and its turns.

    The turns are told as less than 0 where the way leads to the knot, not from it.
    """
    ins = [{} for row in ring]
    outs = [[] for row in ring]
    for number, row in enumerate(ring):
        for side, (goal, place, turns) in enumerate(row[1:]):
            outs[number].append((goal, (ring[goal][0], place), turns))
            ins[goal][place] = (number, (row[0], side), -turns)
    return [[ins[k][place] for place in sorted(ins[k])] + outs[k] for k in range(len(ring))]


def turn_to(links, goal):
    """The turn that leads knot 0, with 0 as its u, to the goal, of the same sort; None where there is none."""
    images = {0: goal}
    rises = {0: 0}
    waiting = [0]
    while waiting:
        knot = waiting.pop()
        mine, its = links[knot], links[images[knot]]
        for (there, end, turns), (image, its_end, its_turns) in zip(mine, its):
            rise = rises[knot] + its_turns - turns
            if there not in images:
                images[there] = image
                rises[there] = rise
                waiting.append(there)
            if end != its_end or images[there] != image or rises[there] != rise:
                return None
    return ([images[k] for k in range(len(links))], [rises[k] for k in range(len(links))])


def part_by(turn):
    """(t, turn), a t-th part that comes where the u of all knots is made greater by as much; None where none does."""
    images, rises = turn
    many = 1
    total = rises[0]
    knot = images[0]
    while knot != 0:
        many += 1
        total += rises[knot]
        knot = images[knot]
    # A turn that leads one knot to itself does so with all, and has the same u at each.
    more, rest = divmod(1 - total, many)
    if rest != 0:
        return None
    return (many, (images, [rise + more for rise in rises]))


def all_parts(ring):
    """All parts of the ring with knots, a dict from each t to a t-th part."""
    links = links_of(ring)
    parts = {}
    for goal, row in enumerate(ring):
        turn = turn_to(links, goal) if row[0] == ring[0][0] else None
        part = None if turn is None else part_by(turn)
        if part is not None:
            parts[part[0]] = part[1]
    return parts


def turning(ring):
    """The turning of the ring, of a loop 0."""
    return max(all_parts(ring)) if ring else 0
