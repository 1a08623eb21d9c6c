"""Expressions written as texts."""


def in_brackets(expr):
    """What is written for an expression where a then would be read as another one without brackets."""
    return ["(", expr, ")"] if expr[0] == "then" else [expr]


def pieces_of(expr):
    """What is written for the expression, from the left: texts, and expressions still to be written."""
    word = expr[0]
    if word == "one":
        return ["one"]
    if word == "move":
        return [f"m{expr[1]}"]
    if word == "name":
        return [expr[1]]
    if word == "then":
        return [expr[1], " "] + in_brackets(expr[2])
    if word == "back":
        return in_brackets(expr[1]) + ["~"]
    if word == "power":
        return in_brackets(expr[1]) + [f"^{expr[2]}"]
    if word in ("low", "high"):
        return [word, "(", expr[1], ")"]
    return [word, "(", expr[1], ", ", expr[2], ")"]


def expr_text(expr):
    """The expression's text."""
    signs = []
    waiting = [expr]
    while waiting:
        piece = waiting.pop()
        if isinstance(piece, str):
            signs.append(piece)
        else:
            waiting.extend(pieces_of(piece)[::-1])
    return "".join(signs)
