"""Expressions for the tests, and slow, plain ways to write, read and run them.

The ways here share nothing with the program: they call themselves, and read by
regular expressions.
"""

import re

from samples import ONE, led, moved

WORDS = ("one", "low", "high", "as", "com")
NAMES = ("a", "b", "m", "x", "ab", "ones", "lowly", "highs", "ascom", "comone", "asx", "mm", "zzzzzz", "alow")


def any_expr(chance, parts, deep, names=NAMES, greatest=999):
    """An expression of at most so many parts, nested at most so deep."""
    if parts < 2 or deep < 2 or chance.random() < 0.05:
        kind = chance.choice(("one", "move", "name", "name"))
        if kind == "one" or (kind == "name" and not names):
            return ("one",)
        return ("move", chance.randint(0, greatest)) if kind == "move" else ("name", chance.choice(names))
    kinds = ("back", "power", "low", "high")
    kind = chance.choice(kinds if parts < 3 else kinds + ("then", "then", "then", "as", "com"))
    if kind in ("back", "low", "high"):
        return (kind, any_expr(chance, parts - 1, deep - 1, names, greatest))
    if kind == "power":
        return (kind, any_expr(chance, parts - 1, deep - 1, names, greatest), chance.randint(-greatest, greatest))
    left = chance.randint(1, parts - 2)
    return (
        kind,
        any_expr(chance, left, deep - 1, names, greatest),
        any_expr(chance, parts - 1 - left, deep - 1, names, greatest),
    )


def many_parts(expr):
    return 1 + sum(many_parts(part) for part in expr[1:] if isinstance(part, tuple))


def nested(expr):
    return 1 + max((nested(part) for part in expr[1:] if isinstance(part, tuple)), default=0)


def names_in(expr):
    """The names in the expression, from the left."""
    if expr[0] == "name":
        return [expr[1]]
    return [name for part in expr[1:] if isinstance(part, tuple) for name in names_in(part)]


def plain_text(expr):
    kind, *parts = expr
    if kind == "one":
        return "one"
    if kind == "move":
        return "m" + str(parts[0])
    if kind == "name":
        return parts[0]
    if kind == "then":
        return plain_text(parts[0]) + " " + whole_text(parts[1])
    if kind == "back":
        return whole_text(parts[0]) + "~"
    if kind == "power":
        return whole_text(parts[0]) + "^" + str(parts[1])
    return kind + "(" + ", ".join(plain_text(part) for part in parts) + ")"


def whole_text(expr):
    return "(" + plain_text(expr) + ")" if expr[0] == "then" else plain_text(expr)


def loose_text(chance, expr):
    """A text of the expression with brackets more, and with blanks more or none where these are free."""
    def blanks():
        return " " * chance.choice((0, 0, 0, 1, 1, 2))

    kind, *parts = expr
    inner = [loose_text(chance, part) if isinstance(part, tuple) else str(part) for part in parts]
    if kind == "then":
        right = inner[1]
        if parts[1][0] == "then":
            right = "(" + blanks() + right + blanks() + ")"
        words_touch = split_up(inner[0])[-1][0].isalnum() and right[0].isalnum()
        text = inner[0] + (" " if words_touch else "") + blanks() + right
    elif kind in ("back", "power"):
        left = inner[0]
        if parts[0][0] == "then":
            left = "(" + blanks() + left + blanks() + ")"
        text = left + blanks() + ("~" if kind == "back" else "^" + inner[1])
    elif kind in ("one", "move", "name"):
        text = plain_text(expr)
    else:
        comma = blanks() + "," + blanks()
        text = kind + blanks() + "(" + blanks() + comma.join(inner) + blanks() + ")"
    if chance.random() < 0.15:
        text = "(" + blanks() + text + blanks() + ")"
    return text


TOKEN = re.compile(r"( +)|([a-z0-9]+)|(\^-?[0-9]+)|([(),~])")
POWER = re.compile(r"\^(0|-?[1-9][0-9]{0,2})")
MOVE = re.compile(r"m(0|[1-9][0-9]{0,2})")


class Wrong(Exception):
    pass


def plain_expr(text):
    """The expression of the text, None where it tells none."""
    try:
        words = split_up(text)
        expr, rest = row_read(words)
        if rest:
            raise Wrong
        return expr
    except Wrong:
        return None


def split_up(text):
    found, at = [], 0
    while at < len(text):
        token = TOKEN.match(text, at)
        if not token:
            raise Wrong
        if not token[1]:
            found.append(token[0])
        at = token.end()
    return found


def row_read(words):
    whole = None
    while words and words[0] not in (")", ","):
        part, words = part_read(words)
        whole = part if whole is None else ("then", whole, part)
    if whole is None:
        raise Wrong
    return whole, words


def part_read(words):
    expr, words = first_read(words)
    while words and words[0][0] in "~^":
        if words[0] == "~":
            expr = ("back", expr)
        elif POWER.fullmatch(words[0]):
            expr = ("power", expr, int(words[0][1:]))
        else:
            raise Wrong
        words = words[1:]
    return expr, words


def first_read(words):
    word = words[0]
    if word == "(":
        expr, words = row_read(words[1:])
        return expr, closed(words)
    if word in ("low", "high"):
        expr, words = row_read(opened(words[1:]))
        return (word, expr), closed(words)
    if word in ("as", "com"):
        one, words = row_read(opened(words[1:]))
        if words[:1] != [","]:
            raise Wrong
        other, words = row_read(words[1:])
        return (word, one, other), closed(words)
    if word == "one":
        return ("one",), words[1:]
    if MOVE.fullmatch(word):
        return ("move", int(word[1:])), words[1:]
    if re.fullmatch("[a-z]{1,6}", word):
        return ("name", word), words[1:]
    raise Wrong


def opened(words):
    if words[:1] != ["("]:
        raise Wrong
    return words[1:]


def closed(words):
    if words[:1] != [")"]:
        raise Wrong
    return words[1:]


def ran(expr, names, number, forth=True):
    """Where the expression, or its back, sends a number of the line, part by part."""
    kind, *parts = expr
    if kind == "one":
        return number
    if kind == "move":
        return moved(parts[0], number, forth)
    if kind == "name":
        one, other = names.get(parts[0], ONE)
        return led((one, other) if forth else (other, one), number)
    if kind == "back":
        return ran(parts[0], names, number, not forth)
    if kind in ("low", "high"):
        begin = 0 if kind == "low" else 1
        within = 2 * number - begin
        return (ran(parts[0], names, within, forth) + begin) / 2 if 0 <= within <= 1 else number
    for part, way in steps_of(kind, parts, forth):
        number = ran(part, names, number, way)
    return number


def steps_of(kind, parts, forth):
    """The parts that an expression does one behind another, each with whether it is done forth."""
    e, f = parts
    if kind == "power":
        steps = [(e, f > 0)] * abs(f)
    elif kind == "then":
        steps = [(e, True), (f, True)]
    elif kind == "as":
        steps = [(f, False), (e, True), (f, True)]
    else:
        steps = [(e, True), (f, True), (e, False), (f, False)]
    return steps if forth else [(part, not way) for part, way in reversed(steps)]


def plain_weight(expr, names):
    kind, *parts = expr
    inner = [plain_weight(part, names) for part in parts if isinstance(part, tuple)]
    return {
        "one": lambda: 0,
        "move": lambda: parts[0] + 2,
        "name": lambda: names[parts[0]],
        "then": lambda: inner[0] + inner[1],
        "back": lambda: inner[0],
        "power": lambda: abs(parts[1] or 1) * inner[0],
        "low": lambda: inner[0] + 1,
        "high": lambda: inner[0] + 1,
        "as": lambda: inner[0] + inner[1] + inner[1],
        "com": lambda: inner[0] + inner[0] + inner[1] + inner[1],
    }[kind]()
