"""Presentations of groups, free generators and presentations of subgroups, subgroups of low index."""

from math import factorial

from stronggens.checks import (
    MOST_GENERATORS, MOST_RELATORS, check_group, check_number, check_presentation, check_word, check_words,
    is_presentation,
)
from stronggens.enumerations import Enumeration
from stronggens.errors import TooMany
from stronggens.grids import check_table, found_rows, led, numbered, scanned
from stronggens.letters import cancelled, column_of, columns_of, inverted
from stronggens.members import check_most, order_of
from stronggens.programs import word_value
from stronggens.quick import unit
from stronggens.relating import relators_of

MOST_ELEMENTS = 60
MOST_INDEX = 6
MOST_TABLES = 2000
MOST_COUNTED = 40


def presentation_of(group):
    """Return a presentation of a group by its generators."""
    check_group(group)
    check_most(group, MOST_ELEMENTS)
    degree, generators = group
    return len(generators), relators_of(degree, generators)


def presents(group, value):
    """Tell whether any value is a presentation of the group by its generators."""
    check_group(group)
    check_most(group, MOST_ELEMENTS)
    degree, generators = group
    if not is_presentation(value) or value[0] != len(generators):
        return False
    if not all([word_value(group, relator) == unit(degree) for relator in value[1]]):
        return False
    try:
        rows = scanned(value, ())
    except TooMany:
        return False
    return len(rows) == order_of(group)


def row_words(table):
    """Return the least words that lead from row 0 to each row."""
    check_table(table)
    words = found_rows(table)
    return tuple([words[row] for row in range(len(table))])


def free_generators(table):
    """Return the words, other than (), of a least word, a generator and the way back by a least word."""
    many = check_table(table)
    return list(_loops(many, table).values())


def rewritten(table, word):
    """Return a word in letters for the free generators, None if it does not lead from row 0 to row 0."""
    many = check_table(table)
    check_word(many, word)
    if led(table, 0, word) != 0:
        return None
    return _rewritten(table, _letters_of(_loops(many, table)), 0, word)


def subgroup_presentation(presentation, words):
    """Return a presentation of the subgroup that some words generate, by the free generators of its coset table."""
    check_presentation(presentation)
    many, relators = presentation
    check_words(many, words)
    table = scanned(presentation, words)
    letters = _letters_of(_loops(many, table))
    if len(letters) > MOST_GENERATORS:
        raise TooMany(MOST_GENERATORS)
    found = {(): True}
    for row in range(len(table)):
        # The least word of the row has no letters for free generators, nor has its inverse.
        for relator in relators:
            found[_rewritten(table, letters, row, relator)] = True
    if len(found) - 1 > MOST_RELATORS:
        raise TooMany(MOST_RELATORS)
    return len(letters), tuple([relator for relator in found if relator])


def low_index(presentation, most):
    """Return the list of the standard tables of at most so many rows that have no flaw for a presentation."""
    check_presentation(presentation)
    check_number(most, 1, MOST_INDEX)
    many, relators = presentation
    scanning = [columns_of(relator) for relator in relators]
    order = _tied_first(many, relators)
    pending = [Enumeration(many)]
    found = []
    while pending:
        told = pending.pop()
        entry = _first_unknown(told, order)
        if entry is None:
            found.append(numbered(told.rows))
            if len(found) > MOST_TABLES:
                raise TooMany(MOST_TABLES)
        else:
            pending.extend(_continued(told, entry, most, scanning))
    return sorted(found, key=lambda table: (len(table), table))


def hall_numbers(many, most):
    """Return the numbers of subgroups of index 1 to most of the free group on many generators."""
    check_number(many, 1, MOST_GENERATORS)
    check_number(most, 1, MOST_COUNTED)
    numbers = []
    for n in range(1, most + 1):
        number = n * _factorial_power(n, many - 1)
        for k in range(1, n):
            number = number - _factorial_power(n - k, many - 1) * numbers[k - 1]
        numbers.append(number)
    return tuple(numbers)


def _loops(many, table):
    """Return a dict from each pair of a row and a generator to its free generator, if that is not ()."""
    words = found_rows(table)
    loops = {}
    for row in range(len(table)):
        for letter in range(1, many + 1):
            target = table[row][column_of(letter)]
            loop = cancelled(words[row] + (letter,) + inverted(words[target]))
            if loop:
                loops[(row, letter)] = loop
    return loops


def _letters_of(loops):
    """Return a dict from each pair of a row and a generator to the letter for its free generator."""
    letters = {}
    for pair in loops:
        letters[pair] = len(letters) + 1
    return letters


def _rewritten(table, letters, row, word):
    """Return the letters for free generators along a word that begins at a row, reduced."""
    made = []
    for letter in word:
        target = table[row][column_of(letter)]
        pair = (row, letter) if letter > 0 else (target, -letter)
        if pair in letters:
            made.append(letters[pair] if letter > 0 else -letters[pair])
        row = target
    return cancelled(made)


def _tied_first(many, relators):
    """Return the list of all generators; those that relators tie to no or few others come ahead."""
    rows = sorted([sorted(set([abs(letter) for letter in relator])) for relator in relators], key=lambda row: len(row))
    order = []
    for row in [*rows, list(range(1, many + 1))]:
        for letter in row:
            if letter not in order:
                order.append(letter)
    return order


def _first_unknown(told, order):
    """Return the first entry that is unknown, generator by generator, None if there is none.

    What the relators of the first generators forbid is then seen before the other generators are tried.
    """
    for letter in order:
        for column in (column_of(letter), column_of(-letter)):
            for row, targets in enumerate(told.rows):
                if targets[column] is None:
                    return row, column
    return None


def _continued(told, entry, most, scanning):
    """Return what the enumeration becomes by each row that an entry may have, if no rows are merged by that."""
    row, column = entry
    found = []
    for target in range(min(len(told.rows) + 1, most)):
        twin = told.copied()
        if target == len(told.rows):
            twin.create(row, column)
        elif told.rows[target][column ^ 1] is None:
            twin.know(row, column, target)
        if twin.rows[row][column] is not None and twin.settle(scanning):
            found.append(twin)
    return found


def _factorial_power(n, exponent):
    made = 1
    for _ in range(exponent):
        made = made * factorial(n)
    return made
