"""Presentations: one more generator, or one less."""

from stronggens.checks import MOST_GENERATORS, MOST_LETTERS, MOST_RELATORS, check_number, check_presentation, check_word
from stronggens.errors import TooMany
from stronggens.letters import cancelled, inverted


def with_generator(presentation, word):
    """Return the presentation with one more generator, which a last relator says to equal the word."""
    check_presentation(presentation)
    many, relators = presentation
    check_word(many, word)
    if many == MOST_GENERATORS:
        raise TooMany(MOST_GENERATORS)
    if len(relators) == MOST_RELATORS:
        raise TooMany(MOST_RELATORS)
    if len(word) == MOST_LETTERS:
        raise TooMany(MOST_LETTERS)
    return many + 1, relators + (word + (-many - 1,),)


def without_generator(presentation, letter):
    """Return the presentation without a generator that some relator tells by the others, None if none does."""
    check_presentation(presentation)
    many, relators = presentation
    check_number(letter, 1, many)
    telling = [index for index, relator in enumerate(relators) if _occurrences(relator, letter) == 1]
    if not telling:
        return None
    first = telling[0]
    word = _told(relators[first], letter)
    rest = relators[:first] + relators[first + 1:]
    replaced = tuple([_replaced(relator, letter, word) for relator in rest])
    if max([len(relator) for relator in replaced], default=0) > MOST_LETTERS:
        raise TooMany(MOST_LETTERS)
    return many - 1, replaced


def _occurrences(relator, letter):
    return relator.count(letter) + relator.count(-letter)


def _told(relator, letter):
    """Return the reduced word that a relator in which the letter stands once says to equal the letter."""
    if letter not in relator:
        relator = inverted(relator)
    place = relator.index(letter)
    return cancelled(inverted(relator[:place]) + inverted(relator[place + 1:]))


def _replaced(relator, letter, word):
    """Return the reduced relator with the word in the letter's place, and the letters above it lowered."""
    back = inverted(word)
    letters = []
    for sign in relator:
        if abs(sign) == letter:
            letters.extend(word if sign > 0 else back)
        else:
            letters.append(sign)
    return cancelled([_lowered(sign, letter) for sign in letters])


def _lowered(sign, letter):
    if abs(sign) < letter:
        return sign
    return sign - 1 if sign > 0 else sign + 1
