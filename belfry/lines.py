"""The lines of a desk, read word by word, and the words for places and keys."""

from belfry.errors import BadLine, BadWord
from belfry.marks import is_name, is_value
from belfry.numerals import is_numeral
from belfry.wordings import NONE, read_askings, read_marks

MOST_FIGURES = 13
LAST_TURN = 1000000000000
GREATEST = 1000000000
HEAVIEST = 9

# What stands behind the first word of a line, its last part perhaps being one of RESTS: all words from there on.
RESTS = ("marks", "askings")
SHAPES = {
    "come": ("turn", "weight", "marks"),
    "quiet": ("turn", "turn", "turn", "askings"),
    "go": ("turn", "number"),
    "lift": ("turn", "number"),
    "swap": ("turn", "name", "name", "name", "turn", "turn"),
    "away": ("turn", "name", "turn", "turn"),
    "answer": ("turn", "place", "key"),
    "until": ("turn",),
    "open": (),
    "log": (),
    "ground": ("number",),
    "on": ("name", "turn"),
    "row": ("place",),
}


def shown_place(place):
    return ".".join([str(k) for k in place]) if place else NONE


def shown_key(key):
    return ",".join(key) if key else NONE


# These answer None of a word that is none.
def read_number(word, greatest):
    if not is_numeral(word, MOST_FIGURES) or int(word) > greatest:
        return None
    return int(word)


def read_name(word):
    return word if is_name(word) else None


def read_place(word):
    if word == NONE:
        return ()
    numbers = [read_number(part, GREATEST) for part in word.split(".")]
    return None if None in numbers else tuple(numbers)


def read_key(word):
    if word == NONE:
        return ()
    values = word.split(",")
    return tuple(values) if all([value == "" or is_value(value) for value in values]) else None


def read_word(kind, word):
    if kind == "turn":
        return read_number(word, LAST_TURN)
    if kind == "number":
        return read_number(word, GREATEST)
    if kind == "weight":
        return read_number(word, HEAVIEST)
    if kind == "name":
        return read_name(word)
    if kind == "place":
        return read_place(word)
    return read_key(word)


def read_rest(kind, words, at):
    text = " ".join(words[at:])
    try:
        return read_marks(text) if kind == "marks" else read_askings(text)
    except BadWord as refusal:
        raise BadLine(at + refusal.at) from None


def read_part(kind, words, at):
    if at >= len(words):
        raise BadLine(at)
    if kind in RESTS:
        return read_rest(kind, words, at)
    part = read_word(kind, words[at])
    if part is None:
        raise BadLine(at)
    return part


def has_rest(kinds):
    return len(kinds) > 0 and kinds[-1] in RESTS


# The first word of a line, and what its other words tell.
def read_line(line):
    words = line.split(" ")
    if words[0] not in SHAPES:
        raise BadLine(0)
    kinds = SHAPES[words[0]]
    parts = [read_part(kind, words, at) for at, kind in enumerate(kinds, start=1)]
    if len(words) > len(kinds) + 1 and not has_rest(kinds):
        raise BadLine(len(kinds) + 1)
    return (words[0], parts)
