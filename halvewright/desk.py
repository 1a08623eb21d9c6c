"""A desk, which keeps programs' rows, is told rows, and answers by texts."""

from halvewright.alike import alike
from halvewright.breaks import breaks_of
from halvewright.commutators import commutators
from halvewright.errors import NoRow, NoText
from halvewright.exprread import read_expr
from halvewright.lengths import length, shortest
from halvewright.normal import normal_of, normal_text
from halvewright.parting import where_part
from halvewright.programs import map_of, map_of_next, row_of
from halvewright.roots import root, turnings
from halvewright.runner import sent
from halvewright.trees import tree_text
from halvewright.words import FIGURES, is_made_of

MOST_DEPTH = 60
TIMES = "123456789"


def point_text(p):
    """The point's text."""
    n, d = p
    return str(n) if d == 0 else f"{n}/{1 << d}"


def depth_by(figures):
    """The depth of the points with these figures behind the stroke, None where there are none."""
    found = [d for d in range(1, MOST_DEPTH + 1) if figures == str(1 << d)]
    return found[0] if found else None


def point_of(text):
    """The point that the text tells, None where it tells none."""
    if text in ("0", "1"):
        return (int(text), 0)
    figures, stroke, power_figures = text.partition("/")
    d = depth_by(power_figures)
    if d is None or not is_made_of(figures, FIGURES) or figures[0] == "0" or len(figures) > len(power_figures):
        return None
    n = int(figures)
    return (n, d) if n & 1 == 1 and n < 1 << d else None


def map_text(mapped):
    """Both trees' texts."""
    return f"{tree_text(mapped[0])} {tree_text(mapped[1])}"


def answer_breaks(mapped):
    """What is answered to `breaks E`."""
    return " ".join([f"{point_text(x)}>{point_text(y)}" for x, y in breaks_of(mapped)])


def answer_row(mapped):
    """What is answered to `row E`."""
    row = shortest(mapped)
    return row if row != "" else "-"


def answer_normal(mapped):
    """What is answered to `normal E`."""
    return normal_text(normal_of(mapped))


def answer_length(mapped):
    """What is answered to `length E`."""
    return str(length(mapped))


def answer_rings(mapped):
    """What is answered to `rings E`."""
    found = turnings(mapped)
    return " ".join([str(number) for number in [len(found)] + found])


def answer_made(mapped):
    """What is answered to `made E`."""
    told = commutators(mapped)
    if told[0] == "made":
        return f"made {len(told[1])}"
    return f"ends {told[1]} {told[2]}"


def answer_send(p, mapped):
    """What is answered to `send P E`."""
    return point_text(sent(mapped, p))


def answer_root(n, mapped):
    """What is answered to `root N E`."""
    told = root(mapped, n)
    if told[0] == "root":
        return f"root {map_text(told[1])}"
    return f"none {told[1]} {told[2]}"


def answer_part(f, g):
    """What is answered to `part E | F`."""
    where = where_part(f, g)
    return "same" if where is None else point_text(where)


def answer_alike(f, g):
    """What is answered to `alike E | F`."""
    told = alike(f, g)
    if told[0] == "alike":
        return f"alike {map_text(told[1])}"
    return f"unlike {told[1]}"


ANSWERS = {
    "trees": map_text, "breaks": answer_breaks, "row": answer_row, "normal": answer_normal, "length": answer_length,
    "send": answer_send, "part": answer_part, "alike": answer_alike, "root": answer_root, "rings": answer_rings,
    "made": answer_made,
}
OF_TWO_MAPS = ("part", "alike")


def times_of(text):
    """The number from 1 to 9 that the text tells, None where it tells none."""
    return int(text) if len(text) == 1 and text in TIMES else None


# What reads the word that stands ahead of E.
AHEAD = {"send": point_of, "root": times_of}


def split_at(text, sign):
    """What stands ahead of the first such sign, and what behind it, or NoRow where there is none."""
    ahead, found, behind = text.partition(sign)
    if found == "":
        raise NoRow(0)
    return [ahead, behind]


def asked(row):
    """The row's word, a list of what it is told ahead of expressions, and a list of these ones' texts, or NoRow."""
    word, rest = split_at(row, " ")
    if word not in ANSWERS:
        raise NoRow(0)
    if word in OF_TWO_MAPS:
        return (word, [], split_at(rest, " | "))
    if word not in AHEAD:
        return (word, [], [rest])
    read = AHEAD[word]
    ahead, text = split_at(rest, " ")
    value = read(ahead)
    if value is None:
        raise NoRow(0)
    return (word, [value], [text])


class Desk:
    """A desk, with the names that it was given and their maps."""

    def __init__(self):
        self.names = {}

    def keep(self, text):
        """Keep the row that gives a name to a map, or refuse it as a program's next row."""
        try:
            row = row_of(text)
        except NoText:
            raise NoText(len(self.names)) from None
        self.names[row[0]] = map_of_next(row, self.names)
        return "kept"

    def say(self, row):
        """The answer to the row, or its refusal."""
        if "=" in row:
            return self.keep(row)
        word, told, texts = asked(row)
        exprs = [read_expr(text) for text in texts]
        told.extend([map_of(expr, self.names) for expr in exprs])
        answer = ANSWERS[word]
        return answer(*told)
