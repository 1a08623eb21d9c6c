"""Programs: rows (name, expression), their texts, and the maps that they tell."""

from halvewright.errors import NoName, NoText, TooGreat, Twice
from halvewright.exprread import read_expr
from halvewright.exprwrite import expr_text
from halvewright.maps import ONE, back, high, low, power, then
from halvewright.rows import numbered
from halvewright.trees import leaves
from halvewright.words import is_name

MOST_WEIGHT = 99


def row_of(text):
    """The row (name, expression) that the text tells, or NoText."""
    ahead, sign, behind = text.partition("=")
    name = ahead.rstrip(" ")
    if not (is_name(name) and ahead.endswith(" ") and behind.startswith(" ")):
        raise NoText(0)
    return (name, read_expr(behind))


def read_program(text):
    """The program that the text tells, or NoText."""
    rows = []
    for at, row in enumerate(text.split("\n") if text != "" else []):
        try:
            rows.append(row_of(row))
        except NoText:
            raise NoText(at) from None
    return tuple(rows)


def program_text(program):
    """The program's text."""
    return "\n".join([f"{name} = {expr_text(expr)}" for name, expr in program])


def inner_of(expr):
    """The expressions of which this one is put together, from the left."""
    return [part for part in expr[1:] if isinstance(part, tuple)]


def parts_of(expr):
    """The expression and all within it, from the left, each ahead of those of which it is put together."""
    found = []
    waiting = [expr]
    while waiting:
        part = waiting.pop()
        found.append(part)
        waiting.extend(inner_of(part)[::-1])
    return found


def worked_out(expr, names, step):
    """What step tells of the expression, where it is told of each part by what was told of those within it."""
    values = []
    # From the right, those within a part come ahead of it, its leftmost one last.
    for part in parts_of(expr)[::-1]:
        inner = [values.pop() for within in inner_of(part)]
        values.append(step(part, inner, names))
    return values[0]


def weight_step(part, inner, names):
    """The weight of a part, inner being the weights of those within it."""
    word = part[0]
    if word == "one":
        return 0
    if word == "move":
        return part[1] + 2
    if word == "name":
        return names[part[1]]
    if word == "power":
        return inner[0] * max(1, abs(part[2]))
    if word in ("low", "high"):
        return inner[0] + 1
    if word == "as":
        return inner[0] + 2 * inner[1]
    if word == "com":
        return 2 * sum(inner)
    return sum(inner)


def weight(expr, names):
    """The weight of the expression, names being a dict from names to weights."""
    return worked_out(expr, names, weight_step)


def map_step(part, inner, names):
    """The map of a part, inner being the maps of those within it."""
    word = part[0]
    if word == "one":
        return ONE
    if word == "move":
        return numbered(part[1])
    if word == "name":
        return names[part[1]]
    if word == "back":
        return back(inner[0])
    if word == "power":
        return power(inner[0], part[2])
    if word == "low":
        return low(inner[0])
    if word == "high":
        return high(inner[0])
    e, f = inner
    if word == "as":
        return then(then(back(f), e), f)
    if word == "com":
        return then(then(e, f), then(back(e), back(f)))
    return then(e, f)


def let_by(expr, names, row):
    """Refuse an expression with a name that isn't there, or that weighs too much."""
    for part in parts_of(expr):
        if part[0] == "name" and part[1] not in names:
            raise NoName(part[1])
    weights = {name: leaves(names[name][0]) - 1 for name in names}
    if weight(expr, weights) > MOST_WEIGHT:
        raise TooGreat(row)


def map_of(expr, names):
    """The map of the expression, names being a dict from names to maps, or NoName, or TooGreat."""
    let_by(expr, names, 0)
    return worked_out(expr, names, map_step)


def map_of_next(row, names):
    """The map of the row behind those of the names, a dict to maps, or Twice, NoName or TooGreat."""
    name, expr = row
    if name in names:
        raise Twice(name)
    let_by(expr, names, len(names))
    return worked_out(expr, names, map_step)


def maps_of(program):
    """A dict from the program's names to their maps, in order, or Twice, NoName or TooGreat."""
    names = {}
    for row in program:
        names[row[0]] = map_of_next(row, names)
    return names
