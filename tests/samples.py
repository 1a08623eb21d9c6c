"""Trees, maps and points for the tests, and slow, plain ways to look at them.

The ways here share nothing with the program: they go by fractions, from the
top of a tree down.
"""

from fractions import Fraction
from random import Random

LEAF = ()
PAIR = ((), ())
ONE = ((), ())
A_MOVE = ((PAIR, ()), ((), PAIR))
B_MOVE = (((), (PAIR, ())), ((), ((), PAIR)))
MOVES = {
    "a": A_MOVE, "b": B_MOVE,
    "A": (A_MOVE[1], A_MOVE[0]), "B": (B_MOVE[1], B_MOVE[0]),
}


def fraction(point):
    n, d = point
    return Fraction(n, 2 ** d)


def told(number):
    """The point of a fraction, with the least depth."""
    d = number.denominator.bit_length() - 1
    assert number.denominator == 2 ** d
    return (number.numerator, d)


def is_number(value):
    return type(value) is int


def is_point(value):
    if type(value) is not tuple or len(value) != 2 or not all(is_number(part) for part in value):
        return False
    n, d = value
    return value in ((0, 0), (1, 0)) or (d > 0 and n % 2 == 1 and 0 < n < 2 ** d)


def is_tree(value):
    waiting = [value]
    while waiting:
        part = waiting.pop()
        if type(part) is not tuple or len(part) not in (0, 2):
            return False
        waiting.extend(part)
    return True


def is_map(value):
    if type(value) is not tuple or len(value) != 2 or not all(is_tree(part) for part in value):
        return False
    return len(parted(value[0])) == len(parted(value[1]))


def parted(tree, begin=Fraction(0), size=Fraction(1)):
    """For each leaf (begin, length) as fractions."""
    if tree == ():
        return [(begin, size)]
    half = size / 2
    return parted(tree[0], begin, half) + parted(tree[1], begin + half, half)


def cut_at(tree):
    return {begin for begin, size in parted(tree)} - {0}


def are_halves(left, right):
    return left[1] == right[1] and (left[0] / (2 * left[1])).denominator == 1


def needless_places(mapped):
    one, other = parted(mapped[0]), parted(mapped[1])
    return [
        k for k in range(len(one) - 1)
        if are_halves(one[k], one[k + 1]) and are_halves(other[k], other[k + 1])
    ]


def led(mapped, number):
    """Where the map sends a number of the line, as fractions."""
    for (begin, size), (goal, long) in zip(parted(mapped[0]), parted(mapped[1])):
        if begin <= number <= begin + size:
            return goal + (number - begin) * long / size
    raise AssertionError(number)


def corners(*maps):
    """Numbers that tell maps apart: all ends of stretches, and one within each."""
    found = {Fraction(0), Fraction(1)}
    for one, other in maps:
        found |= cut_at(one) | cut_at(other)
    rising = sorted(found)
    return rising + [(low + high) / 2 for low, high in zip(rising, rising[1:])]


def without_joint(tree, k):
    """The tree with the joint of its leaves k and k + 1 exchanged for a leaf."""
    if tree == PAIR:
        assert k == 0
        return LEAF
    many = len(parted(tree[0]))
    if k + 1 < many:
        return (without_joint(tree[0], k), tree[1])
    return (tree[0], without_joint(tree[1], k - many))


def plainly_trimmed(mapped):
    while needless_places(mapped):
        k = needless_places(mapped)[0]
        mapped = (without_joint(mapped[0], k), without_joint(mapped[1], k))
    return mapped


def left_chain(joints, end=LEAF):
    tree = end
    for _ in range(joints):
        tree = (tree, ())
    return tree


def right_chain(joints, end=LEAF):
    tree = end
    for _ in range(joints):
        tree = ((), tree)
    return tree


def side_to_side(joints, end=LEAF):
    tree = end
    for k in range(joints):
        tree = (tree, ()) if k % 2 else ((), tree)
    return tree


def chains(joints):
    return [left_chain(joints), right_chain(joints), side_to_side(joints)]


def full_tree(deep):
    tree = LEAF
    for _ in range(deep):
        tree = (tree, tree)
    return tree


def all_trees(many):
    """All trees with so many leaves."""
    if many == 1:
        return [LEAF]
    return [
        (left, right)
        for k in range(1, many)
        for left in all_trees(k)
        for right in all_trees(many - k)
    ]


def any_tree(chance, many):
    """A tree with so many leaves, none beneath more than 40 joints."""
    while True:
        tree = split(chance, many)
        if min(size for _, size in parted(tree)) >= Fraction(1, 2 ** 40):
            return tree


def split(chance, many):
    if many == 1:
        return LEAF
    k = chance.randint(1, many - 1)
    return (split(chance, k), split(chance, many - k))


def some_trees(seed, how_many, most=60):
    chance = Random(seed)
    return [any_tree(chance, chance.randint(1, most)) for _ in range(how_many)]


def some_maps(seed, how_many, most=12):
    chance = Random(seed)
    found = []
    for _ in range(how_many):
        many = chance.randint(1, most)
        found.append((any_tree(chance, many), any_tree(chance, many)))
    return found


def small_maps(most):
    return [
        (one, other)
        for many in range(1, most + 1)
        for one in all_trees(many)
        for other in all_trees(many)
    ]


def replaced(tree, k, part):
    """The tree with its leaf k exchanged for part."""
    if tree == ():
        return part
    many = len(parted(tree[0]))
    if k < many:
        return (replaced(tree[0], k, part), tree[1])
    return (tree[0], replaced(tree[1], k - many, part))


def cut_more(chance, mapped, times):
    """The same map with more cuts than it needs."""
    one, other = mapped
    for _ in range(times):
        many = len(parted(one))
        k = chance.randrange(many)
        part = any_tree(chance, chance.randint(2, 3))
        one, other = replaced(one, k, part), replaced(other, k, part)
    return (one, other)


def cut_maps(seed, how_many, times=4):
    chance = Random(seed)
    return [cut_more(chance, mapped, times) for mapped in some_maps(seed, how_many)]


def copied(value):
    """The same tuples and lists, made anew."""
    if isinstance(value, (tuple, list)):
        return type(value)(copied(part) for part in value)
    return value


def way_back(row):
    return row[::-1].swapcase()


def some_rows(seed, how_many, shortest, longest):
    chance = Random(seed)
    return [
        "".join(chance.choice("abAB") for _ in range(chance.randint(shortest, longest)))
        for _ in range(how_many)
    ]


def moved(n, number, forth=True):
    """Where move n, or its back, sends a number of the line."""
    begin = 1 - Fraction(1, 2 ** n)
    if number <= begin:
        return number
    return begin + led(A_MOVE if forth else MOVES["A"], (number - begin) * 2 ** n) / 2 ** n
