"""Whole numbers as they are written: by figures, the first no 0 but in 0 itself."""

from belfry.marks import FIGURES, made_of


def is_numeral(word, most_figures):
    if not 1 <= len(word) <= most_figures or not made_of(word, FIGURES):
        return False
    return word == "0" or word[0] != "0"
