"""Points of the line, n / 2 ** d as tuples (n, d), told with the least d."""


def point(n, d):
    """The point n / 2 ** d."""
    while d > 0 and n & 1 == 0:
        n >>= 1
        d -= 1
    return (n, d)


def before(p, q):
    """Whether p is less than q; n and d need not be the least ones."""
    return p[0] << q[1] < q[0] << p[1]


def between(p, q):
    """The point half way from p to q."""
    return point((p[0] << q[1]) + (q[0] << p[1]), p[1] + q[1] + 1)


def gap(p, q):
    """How far q, the greater one, is from p, as a point is told."""
    return point((q[0] << p[1]) - (p[0] << q[1]), p[1] + q[1])


def carried(p, here, there):
    """Where p comes, when the stretch here is laid evenly onto there.

    A stretch (n, d) begins at n / 2 ** d and is 1 / 2 ** d long.
    """
    along = (p[0] << here[1]) + ((there[0] - here[0]) << p[1])
    return point(along, there[1] + p[1])
