"""Relators for a small group, read off the table of its products with generators (J. Cannon, 1973)."""

from stronggens.checks import MOST_RELATORS
from stronggens.enumerations import Enumeration, by_rows, by_scans, turns_of
from stronggens.errors import TooMany
from stronggens.grids import found_rows, led
from stronggens.letters import cancelled, columns_of, cut, inverted
from stronggens.quick import compose, invert, unit
from stronggens.tours import reached


def relators_of(degree, generators):
    """Return relators for the generators by which both methods end without too many rows."""
    many = len(generators)
    rows = product_table(degree, generators)
    loops = loops_of(many, rows)
    relators = needed_relators(many, rows, loops)
    further = unlike([word for word, _ in loops], relators)
    # With more relators than needed, fewer rows are created that have to be merged later.
    while not both_end(many, relators) and further and len(relators) < MOST_RELATORS:
        relators = sorted([*relators, further[0]], key=len)
        further = further[1:]
    return tuple(relators)


def product_table(degree, generators):
    """Return, for each element, the numbers of its products with the generators and their inverses."""
    moves = [move for p in generators for move in (p, invert(p))]
    numbers = {}
    for p in reached(unit(degree), moves, compose):
        numbers[p] = len(numbers)
    return [[numbers[compose(p, move)] for move in moves] for p in numbers]


def loops_of(many, rows):
    """Return the pairs of a word and an entry (row, letter), short words first.

    The word leads around a loop that has this entry and else only such of the least words to rows.
    """
    words = found_rows(rows)
    loops = []
    for row in range(len(rows)):
        for letter in range(1, many + 1):
            target = led(rows, row, (letter,))
            word = cancelled(words[row] + (letter,) + inverted(words[target]))
            if word:
                loops.append((cut(word)[1], (row, letter)))
    return sorted(loops, key=lambda pair: (len(pair[0]), pair))


def needed_relators(many, rows, loops):
    """Return those words of loops from which, with the least words to rows, all entries follow."""
    told = Enumeration(many)
    for word in found_rows(rows).values():
        if word:
            told.create(led(rows, 0, word[:-1]), columns_of(word)[-1])
    needed = []
    for word, entry in loops:
        row, letter = entry
        if led(told.rows, row, (letter,)) is None:
            needed.append(word)
            draw_all(told, needed, word)
    return needed


def draw_all(told, relators, word):
    """Have all entries known that follow from one more relator."""
    for row in range(len(told.rows)):
        told.scan(row, columns_of(word))
    told.follow(turns_of(told.many, relators))


def unlike(words, others):
    """Return the words that no other one, and none ahead of them, becomes if it is turned or inverted."""
    seen = set()
    for word in others:
        seen.add(least_turn(word))
    rest = []
    for word in words:
        turn = least_turn(word)
        if turn not in seen:
            seen.add(turn)
            rest.append(word)
    return rest


def least_turn(word):
    """Return the least of the words that a word becomes if it is turned or inverted."""
    turns = [told[place:] + told[:place] for told in (word, inverted(word)) for place in range(len(word))]
    return min(turns)


def both_end(many, relators):
    """Tell whether the coset table for no words raises TooMany by neither method."""
    presentation = many, tuple(relators)
    try:
        by_scans(presentation, ())
        by_rows(presentation, ())
    except TooMany:
        return False
    return True
