"""Subgroups of free groups: their folded tables, ranks and indexes, programs, meets, and what separates words."""

from stronggens.checks import (
    MOST_GENERATORS, check_number, check_word, check_words, is_between, is_permutation, is_tuple_of,
)
from stronggens.foldings import Folding, completed, folded_rows, met_rows, trimmed
from stronggens.grids import led, numbered
from stronggens.letters import cancelled, column_of

MOST_DEGREE = 100


def folded(many, words):
    """Return the partial table of the words."""
    _check(many, words)
    return numbered(folded_rows(many, words).rows)


def free_rank(many, words):
    """Return the number of free generators of the subgroup."""
    table = folded(many, words)
    known = sum([len([target for target in row if target is not None]) for row in table])
    return known // 2 - len(table) + 1


def free_index(many, words):
    """Return the index of the subgroup, None if it is not finite."""
    table = folded(many, words)
    return None if any([None in row for row in table]) else len(table)


def free_program(many, words, word):
    """Return a program over the words whose value is freely equal to a word, None if that is not in the subgroup."""
    _check(many, words)
    check_word(many, word)
    return Folding(words).program(cancelled(word))


def free_meet(many, one, other):
    """Return the partial table of the words that are in both of two subgroups."""
    return numbered(trimmed(met_rows(folded(many, one), folded(many, other))))


def separated(many, words, word):
    """Return permutations by which the words carry 0 to itself and a word does not, None if it is in the subgroup."""
    _check(many, words)
    check_word(many, word)
    told = folded_rows(many, words)
    row = 0
    for letter in cancelled(word):
        column = column_of(letter)
        if told.rows[row][column] is None:
            told.create(row, column)
        row = told.rows[row][column]
    if row == 0:
        return None
    rows = numbered(told.rows)
    return tuple([completed(rows, 2 * index) for index in range(many)])


def shows_separated(many, words, word, value):
    """Tell whether any value is a tuple of permutations that separate a word from the subgroup."""
    _check(many, words)
    check_word(many, word)
    if not is_tuple_of(value, many) or not _are_permutations(value):
        return False
    rows = [_entries(value, point) for point in range(len(value[0]))] if value else [()]
    return all([led(rows, 0, told) == 0 for told in words]) and led(rows, 0, word) != 0


def _check(many, words):
    check_number(many, 0, MOST_GENERATORS)
    check_words(many, words)


def _are_permutations(perms):
    """Tell whether all are permutations of one degree from 1 to 100."""
    if not all([type(p) is tuple and is_between(len(p), 1, MOST_DEGREE) for p in perms]):
        return False
    return all([is_permutation(len(perms[0]), p) for p in perms])


def _entries(perms, point):
    """Return the images of a point by the permutations, each followed by its image by the inverse."""
    return tuple([target for p in perms for target in (p[point], p.index(point))])
