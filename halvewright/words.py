"""Words in texts: names, and numbers by figures."""

LETTERS = "abcdefghijklmnopqrstuvwxyz"
FIGURES = "0123456789"
TAKEN = ("one", "low", "high", "as", "com")
MOST_LETTERS = 6
MOST_FIGURES = 3


def is_made_of(word, signs):
    """Whether the word has signs, and none but these."""
    return word != "" and all([sign in signs for sign in word])


def is_name(word):
    """Whether the word may be given as a name."""
    return is_made_of(word, LETTERS) and len(word) <= MOST_LETTERS and word not in TAKEN


def number_of(word):
    """The number from 0 to 999 that the word tells without a nought ahead of others, None where it tells none."""
    if not is_made_of(word, FIGURES) or len(word) > MOST_FIGURES:
        return None
    return int(word) if word == "0" or word[0] != "0" else None
