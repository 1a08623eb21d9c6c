"""Normal rows: tuples (ups, downs) of pairs (number, times), and their texts."""

from halvewright.errors import NoText
from halvewright.maps import ONE, back, then, trimmed
from halvewright.rows import numbered
from halvewright.trees import stretches
from halvewright.words import number_of


def left_steps(stretch):
    """How many left steps the leaf with this stretch has."""
    n, d = stretch
    steps = 0
    while d > 0 and n & 1 == 0:
        n >>= 1
        d -= 1
        # The joints whose stretch ends where the line does are the right ones.
        if n + 1 == 1 << d:
            break
        steps += 1
    return steps


def side_of(tree):
    """The pairs (leaf, left steps) of all leaves that have such steps."""
    found = [(k, left_steps(stretch)) for k, stretch in enumerate(stretches(tree))]
    return tuple([(k, steps) for k, steps in found if steps > 0])


def normal_of(mapped):
    """The map's one normal row."""
    one, other = trimmed(mapped)
    return (side_of(one), side_of(other))


def hung(side):
    """The parts that hang at the right joints of the tree whose leaves have the side's left steps, the last one ahead.

    Each part is told with how many leaves it has; what would hang behind them
    are leaves alone.
    """
    steps = dict(side)
    greatest = side[-1][0] if side else 0
    parts = []
    for k in range(greatest, -1, -1):
        tree, many = (), 1
        for step in range(steps.get(k, 0)):
            right, more = parts.pop() if parts else ((), 1)
            tree, many = (tree, right), many + more
        parts.append((tree, many))
    return parts


def leaves_of(parts):
    """How many leaves the parts have together."""
    return sum([many for tree, many in parts])


def tree_of_hung(parts, many):
    """The tree at whose right joints the parts hang, and leaves alone until there are so many."""
    tree = ()
    for k in range(many - leaves_of(parts)):
        tree = ((), tree)
    for part, size in parts:
        tree = (part, tree)
    return tree


def map_of_normal(normal):
    """The map of the normal row."""
    ups, downs = hung(normal[0]), hung(normal[1])
    many = max(leaves_of(ups), leaves_of(downs))
    return trimmed((tree_of_hung(ups, many), tree_of_hung(downs, many)))


def settled(moves):
    """The normal row of numbered moves forth (1) and back (-1), one behind another."""
    whole = ONE
    for number, way in moves:
        step = numbered(number)
        whole = then(whole, step if way == 1 else back(step))
    return normal_of(whole)


def word_of(pair):
    """The word that tells so many times a number."""
    number, times = pair
    return str(number) if times == 1 else f"{number}^{times}"


def normal_text(normal):
    """The normal row's text."""
    ups, downs = normal
    return " ".join([word_of(pair) for pair in ups] + ["/"] + [word_of(pair) for pair in downs])


def pair_of(word):
    """The pair that the word tells, None where it tells none."""
    figures, sign, times_figures = word.partition("^")
    number = number_of(figures)
    times = 1 if sign == "" else number_of(times_figures)
    if number is None or times is None or (sign == "^" and times < 2):
        return None
    return (number, times)


def may_stand_next(pair, side):
    """Whether what was read may stand behind the pairs of its side."""
    return pair is not None and (side == [] or side[-1][0] < pair[0])


def keeps_rule(ups, downs):
    """Whether behind each number that stands in both the next one stands in one at least."""
    up, down = dict(ups), dict(downs)
    return all([k + 1 in up or k + 1 in down for k in up if k in down])


def read_normal(text):
    """The normal row that the text tells, or NoText."""
    sides = [[]]
    words = text.split(" ")
    for at, word in enumerate(words):
        if word == "/" and len(sides) == 1:
            sides.append([])
            continue
        pair = pair_of(word)
        if not may_stand_next(pair, sides[-1]):
            raise NoText(at)
        sides[-1].append(pair)
    if len(sides) == 1 or not keeps_rule(sides[0], sides[1]):
        raise NoText(len(words))
    return (tuple(sides[0]), tuple(sides[1]))
