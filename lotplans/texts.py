"""Problems written as texts."""

from lotplans.checks import MOST_PERIODS, check_problem
from lotplans.errors import InvalidText, NotText

NAMES = ("demands", "setups", "units", "holdings")
DIGITS = "0123456789"
MOST_DIGITS = 3


def write(problem):
    """The text of a problem: a line for each of its four parts."""
    check_problem(problem)
    lines = []
    for name, row in zip(NAMES, problem):
        lines.append(" ".join([name] + [str(entry) for entry in row]))
    return "\n".join(lines)


def read(text):
    """The problem that a text tells."""
    if not isinstance(text, str):
        raise NotText("not a string")
    lines = text.split("\n")
    rows = []
    for place in range(len(NAMES)):
        words = words_of(lines[place]) if place < len(lines) else []
        least, most = (len(rows[0]), len(rows[0])) if rows else (1, MOST_PERIODS)
        check_words(place, words, least, most)
        rows.append(tuple([int(word) for word in words[1:]]))
    if len(lines) > len(NAMES):
        raise InvalidText(len(NAMES) + 1, 1)
    return tuple(rows)


def words_of(line):
    """The words of a line: only spaces part them."""
    return [word for word in line.split(" ") if word != ""]


def check_words(place, words, least, most):
    """Raises InvalidText if the words are not the name due and then from least to most entries."""
    for at, word in enumerate(words):
        allowed = word == NAMES[place] if at == 0 else at <= most and is_written_entry(word)
        if not allowed:
            raise InvalidText(place + 1, at + 1)
    if len(words) < least + 1:
        raise InvalidText(place + 1, len(words) + 1)


def is_written_entry(word):
    """Whether a word writes an entry as Python writes integers: without a sign and leading zeros."""
    if len(word) > MOST_DIGITS or not all([sign in DIGITS for sign in word]):
        return False
    return word == "0" or word[0] != "0"
