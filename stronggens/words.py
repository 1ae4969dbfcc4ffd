"""Words in free groups: reduced words, conjugators and roots; and words as texts."""

from stronggens.checks import check_number, check_word
from stronggens.errors import InvalidText, NotText, TooMany
from stronggens.letters import cancelled, cut, inverted

MOST_GENERATORS = 12
MOST_LETTERS = 60
MOST_BRACKETS = 8
MOST_DIGITS = 3
DIGITS = "0123456789"
LETTERS = "abcdefghijkl"
INVERSES = "ABCDEFGHIJKL"


def reduced(many, word):
    """Return the word that is left when letters beside their inverses are removed."""
    _check(many, word)
    return cancelled(word)


def cyclically_reduced(many, word):
    """Return (outer, inner): the reduced word is outer, inner, then the inverse of outer."""
    _check(many, word)
    return cut(cancelled(word))


def conjugate_words(many, one, other):
    """Return a word w such that the inverse of w, one and w are freely equal to other, None if there is none."""
    _check(many, one)
    check_word(many, other)
    outer, inner = cut(cancelled(one))
    goal_outer, goal = cut(cancelled(other))
    if len(inner) != len(goal):
        return None
    for place in range(max(1, len(inner))):
        if inner[place:] + inner[:place] == goal:
            return cancelled(outer + inner[:place] + inverted(goal_outer))
    return None


def word_root(many, word):
    """Return (root, exponent) with the greatest exponent such that the word is freely equal to that power."""
    _check(many, word)
    outer, inner = cut(cancelled(word))
    for size in range(1, len(inner) + 1):
        exponent = len(inner) // size
        if inner[:size] * exponent == inner:
            return outer + inner[:size] + inverted(outer), exponent
    return (), 0


def write_word(many, word):
    """Return the text of a word, one character for each letter."""
    _check(many, word)
    return "".join([LETTERS[letter - 1] if letter > 0 else INVERSES[-letter - 1] for letter in word])


def read_word(many, text):
    """Return the word that a text of letters, brackets and exponents stands for."""
    check_number(many, 0, MOST_GENERATORS)
    if type(text) is not str:
        raise NotText("not a string")
    # All of the text is read before anything is written out: its errors come before TooMany.
    return _letters_of(_read_parts(many, text))


def _check(many, word):
    check_number(many, 0, MOST_GENERATORS)
    check_word(many, word)


def _read_parts(many, text):
    """Return the list of the pairs (sign, exponent) of a text: letters, and brackets with exponents as they close."""
    parts = []
    depth = 0
    place = 0
    while place < len(text):
        sign = text[place]
        if sign == "(" and depth < MOST_BRACKETS:
            depth += 1
            parts.append((sign, 1))
            place += 1
        elif _letter(many, sign) != 0 or (sign == ")" and depth > 0):
            if sign == ")":
                depth -= 1
            exponent, place = _read_exponent(text, place + 1)
            parts.append((sign, exponent))
        else:
            raise InvalidText(place)
    if depth > 0:
        raise InvalidText(len(text))
    return parts


def _letter(many, sign):
    """Return the letter that a character stands for, 0 if for none of so many generators."""
    if sign in LETTERS[:many]:
        return LETTERS.index(sign) + 1
    if sign in INVERSES[:many]:
        return -INVERSES.index(sign) - 1
    return 0


def _read_exponent(text, place):
    """Return the exponent that stands at a place, 1 if there is none, and the place behind it."""
    if text[place:place + 1] == "0":
        return 0, place + 1
    start = place + 1 if text[place:place + 1] == "-" else place
    end = start
    while end < len(text) and end - start < MOST_DIGITS and text[end] in DIGITS:
        if end == start and text[end] == "0":
            raise InvalidText(end)
        end += 1
    if end > start:
        return int(text[place:end]), end
    if start > place:
        raise InvalidText(start)
    return 1, place


def _letters_of(parts):
    """Return the letters of all parts; TooMany as soon as some part or some row of parts is too long."""
    rows = [[]]
    for sign, exponent in parts:
        if sign == "(":
            rows.append([])
            continue
        part = rows.pop() if sign == ")" else [_letter(MOST_GENERATORS, sign)]
        if len(part) * abs(exponent) > MOST_LETTERS:
            raise TooMany(MOST_LETTERS)
        copied = part if exponent >= 0 else list(inverted(part))
        rows[-1].extend(copied * abs(exponent))
        if len(rows[-1]) > MOST_LETTERS:
            raise TooMany(MOST_LETTERS)
    return tuple(rows[0])
