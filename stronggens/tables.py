"""Tables: what is wrong with a value that is none, standard tables, maps between tables."""

from stronggens.checks import check_presentation, check_word, check_words
from stronggens.errors import BadTable
from stronggens.grids import check_table, flaw_of, found_rows, led, numbered, scanned


def table_flaw(presentation, words, value):
    """Return what keeps a value from being a table of a subgroup with the words, None if nothing does."""
    check_presentation(presentation)
    many, relators = presentation
    check_words(many, words)
    return flaw_of(many, relators, words, value)


def standard(table):
    """Return the table with its rows numbered in the order in which they appear."""
    check_table(table)
    return numbered(table)


def table_map(one, other):
    """Return the rows of other to which the rows of one go, entries to entries, None if they can not."""
    check_table(one)
    check_table(other)
    if len(one[0]) != len(other[0]):
        raise BadTable("the tables have different numbers of letters")
    words = found_rows(one)
    images = [led(other, 0, words[row]) for row in range(len(one))]
    for row, targets in enumerate(one):
        if [images[target] for target in targets] != list(other[images[row]]):
            return None
    return tuple(images)


def follows(presentation, word):
    """Tell whether a word is the identity in the group, by its coset table for no words."""
    check_presentation(presentation)
    check_word(presentation[0], word)
    return led(scanned(presentation, ()), 0, word) == 0
