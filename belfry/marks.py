"""Names, values, and marks: a tuple of pairs (name, value), sorted by name."""

LETTERS = "abcdefghijklmnopqrstuvwxyz"
FIGURES = "0123456789"
LONGEST_NAME = 8
LONGEST_VALUE = 12


# The signs are told one by one, since islower and isdigit also take letters
# and figures that are not meant here.
def made_of(word, signs):
    return all([sign in signs for sign in word])


def is_name(word):
    return 1 <= len(word) <= LONGEST_NAME and made_of(word, LETTERS)


def is_value(word):
    return 1 <= len(word) <= LONGEST_VALUE and made_of(word, LETTERS + FIGURES)


def has_name(marks, name):
    return any([pair[0] == name for pair in marks])


def value_in(marks, name):
    for pair in marks:
        if pair[0] == name:
            return pair[1]
    return ""
