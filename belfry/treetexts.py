"""A tree written as a list of texts, one for each row in the order of its places, and read from it."""

from belfry.askings import names_in, values_beside
from belfry.errors import BadTree
from belfry.marks import FIGURES, is_name, made_of
from belfry.numerals import is_numeral
from belfry.trees import places, row_at
from belfry.wordings import NONE, askings_ahead, shown_askings

# How many words of a text stand ahead of its askings.
AHEAD = 6
DEEPEST = 4
MOST_ROWS = 20
MOST_BELOW = 5
MOST_NAMES = 4
MOST_NAMES_ASKED = 4
MOST_VALUES_ASKED = 3
MOST_FIGURES = 10
GREATEST = 1000000000


def shown_names(names):
    return ",".join(names) if names else NONE


def shown_row(row, depth):
    on = "on" if row[1] else "off"
    words = [str(depth), on, shown_names(row[2]), str(row[3]), str(row[4]), shown_names(row[5]), shown_askings(row[0])]
    return " ".join(words)


def shown_tree(tree):
    return [shown_row(row_at(tree, place), len(place)) for place in places(tree)]


def rows_beside(depth, depths):
    beside = 0
    for other in reversed(depths):
        if other < depth:
            break
        if other == depth:
            beside = beside + 1
    return beside


def is_depth(word, depths):
    if len(word) != 1 or not made_of(word, FIGURES):
        return False
    depth = int(word)
    if not depths:
        return depth == 0
    if len(depths) >= MOST_ROWS or rows_beside(depth, depths) >= MOST_BELOW:
        return False
    return 1 <= depth <= min(DEEPEST, depths[-1] + 1)


def is_number(word):
    return is_numeral(word, MOST_FIGURES) and 1 <= int(word) <= GREATEST


def read_names(word):
    return () if word == NONE else tuple(word.split(","))


def are_names(names):
    return len(names) <= MOST_NAMES and all([is_name(name) for name in names])


def are_unlike_names(names):
    return are_names(names) and len(set(names)) == len(names)


def is_right(at, word, depths):
    if at == 0:
        return is_depth(word, depths)
    if at == 1:
        return word in ("on", "off")
    if at == 2:
        return are_unlike_names(read_names(word))
    if at == 5:
        return are_names(read_names(word))
    return is_number(word)


# How many words, of those ahead of the askings, are right up to the first that is not.
def right_ahead(words, depths):
    for at, word in enumerate(words[:AHEAD]):
        if not is_right(at, word, depths):
            return at
    return min(len(words), AHEAD)


def fits(asking, asked):
    askings = asked + [asking]
    values = values_beside(askings, asking[1])
    return len(names_in(askings)) <= MOST_NAMES_ASKED and len(values) <= MOST_VALUES_ASKED


def fitting(askings, asked):
    found = []
    for asking in askings:
        if not fits(asking, asked + found):
            break
        found.append(asking)
    return found


# An asking that brings too much to the tree may stand ahead of a word that is
# no asking at all, so the words are not read as a whole.
def read_row_askings(words, number, asked):
    if words == [NONE]:
        return ()
    askings = askings_ahead(words)
    if number > 0:
        askings = fitting(askings, asked)
    if len(askings) < len(words):
        raise BadTree(number, AHEAD + len(askings))
    return tuple(askings)


def read_row(words, number, depths, asked):
    right = right_ahead(words, depths)
    if right < AHEAD or len(words) == AHEAD:
        raise BadTree(number, right)
    askings = read_row_askings(words[AHEAD:], number, asked)
    on = words[1] == "on"
    return (askings, on, read_names(words[2]), int(words[3]), int(words[4]), read_names(words[5]))


# From the last row back: the rows of a row are all there when it comes.
def nested(rows, depths):
    waiting = [[] for depth in range(DEEPEST + 2)]
    for k in range(len(rows) - 1, -1, -1):
        depth = depths[k]
        row = rows[k] + (tuple(waiting[depth + 1]),)
        waiting[depth + 1] = []
        waiting[depth] = [row] + waiting[depth]
    return waiting[0][0]


def read_tree(texts):
    if not texts:
        raise BadTree(0, 0)
    rows = []
    depths = []
    asked = []
    for number, text in enumerate(texts):
        words = text.split(" ")
        row = read_row(words, number, depths, asked)
        rows.append(row)
        depths.append(int(words[0]))
        if number > 0:
            asked.extend(row[0])
    return nested(rows, depths)
