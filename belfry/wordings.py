"""Marks and askings written as words parted by single blanks, and read from them."""

from belfry.errors import BadWord
from belfry.marks import has_name, is_name, is_value

NONE = "-"
SIGN_OF = {"is": "=", "no": "!", "there": "+", "lacks": "-"}
MOST_MARKS = 8
MOST_ASKINGS = 4
MOST_VALUES = 3


def shown_words(words):
    return " ".join(words) if words else NONE


def shown_marks(marks):
    return shown_words([pair[0] + "=" + pair[1] for pair in marks])


def shown_asking(asking):
    return asking[1] + SIGN_OF[asking[0]] + "|".join(asking[2])


def shown_askings(askings):
    return shown_words([shown_asking(asking) for asking in askings])


def read_mark(word):
    parts = word.partition("=")
    if is_name(parts[0]) and is_value(parts[2]):
        return (parts[0], parts[2])
    return None


def read_marks(text):
    if text == NONE:
        return ()
    pairs = []
    for at, word in enumerate(text.split(" ")):
        pair = read_mark(word)
        if at == MOST_MARKS or pair is None or has_name(pairs, pair[0]):
            raise BadWord(at)
        pairs.append(pair)
    return tuple(sorted(pairs))


def are_values(values):
    return (
        len(values) <= MOST_VALUES
        and len(set(values)) == len(values)
        and all([is_value(value) for value in values])
    )


def read_asking(word):
    for kind, sign in SIGN_OF.items():
        parts = word.partition(sign)
        # No sign of these may stand in a name, so just one can part it off.
        if parts[1] == sign and is_name(parts[0]):
            return asking_of(kind, parts[0], parts[2])
    return None


def asking_of(kind, name, rest):
    if kind in ("there", "lacks"):
        return (kind, name, ()) if rest == "" else None
    values = tuple(rest.split("|"))
    return (kind, name, values) if are_values(values) else None


# Those ahead of the first word that is none are told by themselves, since a
# tree may have something to say against one of them, too.
def askings_ahead(words):
    askings = []
    for word in words[:MOST_ASKINGS]:
        asking = read_asking(word)
        if asking is None:
            break
        askings.append(asking)
    return askings


def read_askings(text):
    if text == NONE:
        return ()
    words = text.split(" ")
    askings = askings_ahead(words)
    if len(askings) < len(words):
        raise BadWord(len(askings))
    return tuple(askings)
