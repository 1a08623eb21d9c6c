"""Expressions read from their texts.

What waits for its bracket to be closed is a tuple (head, parts, row): the
word ahead of the bracket, or the text without signs; the parts that a comma
ended; and what stands in a row behind these, to be put together by then.
"""

from halvewright.errors import NoText
from halvewright.words import FIGURES, LETTERS, is_name, number_of

# How many parts stand within a bracket, by the word ahead of it.
PARTS = {"": 1, "low": 1, "high": 1, "as": 2, "com": 2}


def run_end(text, at, signs):
    """The place behind the signs of this sort that stand side by side from at on."""
    while at < len(text) and text[at] in signs:
        at += 1
    return at


def word_end(text, at):
    """The place behind the word, the power or the single sign that begins at at."""
    if text[at] in LETTERS + FIGURES:
        return run_end(text, at, LETTERS + FIGURES)
    if text[at] == "^":
        minus = 1 if text.startswith("-", at + 1) else 0
        return run_end(text, at + 1 + minus, FIGURES)
    return at + 1


def words_of(text):
    """The words, powers and other signs of the text, in order, without the blanks."""
    found = []
    at = 0
    while at < len(text):
        end = word_end(text, at)
        if text[at] != " ":
            found.append(text[at:end])
        at = end
    return found


def power_of(word):
    """The number of the power `^N` or `^-N`, or NoText."""
    number = number_of(word[1:].removeprefix("-"))
    if number is None or word == "^-0":
        raise NoText(0)
    return -number if word[1] == "-" else number


def alone(word):
    """The expression that is a single word, or NoText."""
    if word == "one":
        return ("one",)
    if is_name(word):
        return ("name", word)
    number = number_of(word[1:]) if word[0] == "m" else None
    if number is None:
        raise NoText(0)
    return ("move", number)


def in_a_row(row):
    """The thens of what stands in a row, from the left."""
    whole = row[0]
    for part in row[1:]:
        whole = ("then", whole, part)
    return whole


def end_part(waiting):
    """Make one part of what stands in the row, or NoText where nothing does."""
    head, parts, row = waiting[-1]
    if row == []:
        raise NoText(0)
    parts.append(in_a_row(row))
    row.clear()


def closed(waiting):
    """The expression that the innermost bracket makes, or NoText where it has other parts than it needs."""
    end_part(waiting)
    head, parts, row = waiting.pop()
    if len(parts) != PARTS[head]:
        raise NoText(0)
    return parts[0] if head == "" else (head, *parts)


def put_behind(waiting, word):
    """Take `)`, `~`, a power or a single word into the row that is being read, or NoText."""
    if word == ")":
        part = closed(waiting)
        if waiting == []:
            raise NoText(0)
        waiting[-1][2].append(part)
        return
    row = waiting[-1][2]
    if word == "~" or word[0] == "^":
        if row == []:
            raise NoText(0)
        part = row.pop()
        row.append(("back", part) if word == "~" else ("power", part, power_of(word)))
        return
    row.append(alone(word))


def read_expr(text):
    """The expression that the text tells, or NoText."""
    waiting = [("", [], [])]
    head = ""
    for word in words_of(text):
        if head != "" and word != "(":
            raise NoText(0)
        if word == "(":
            waiting.append((head, [], []))
            head = ""
        elif word in PARTS:
            head = word
        elif word == ",":
            end_part(waiting)
        else:
            put_behind(waiting, word)
    if head != "" or len(waiting) != 1:
        raise NoText(0)
    return closed(waiting)
