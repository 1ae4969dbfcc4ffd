"""Words as rows of letters: free reduction, inverses, and the columns that letters have in tables."""


def cancelled(word):
    """Return the word that is left when letters beside their inverses are removed."""
    letters = []
    for letter in word:
        if letters and letters[-1] == -letter:
            letters.pop()
        else:
            letters.append(letter)
    return tuple(letters)


def inverted(word):
    """Return the inverse of a word, letter by letter."""
    return tuple([-letter for letter in reversed(word)])


def cut(word):
    """Return the outer and the inner part of a reduced word: it is outer, inner, then the inverse of outer."""
    size = 0
    while 2 * size < len(word) - 1 and word[size] == -word[-1 - size]:
        size += 1
    return word[:size], word[size:len(word) - size]


def column_of(letter):
    """Return the place of a letter in the order 1, -1, 2, -2, .. of letters."""
    return 2 * letter - 2 if letter > 0 else -2 * letter - 1


def letter_at(column):
    """Return the letter at a place in the order of letters."""
    return column // 2 + 1 if column % 2 == 0 else -(column // 2) - 1


def columns_of(word):
    """Return the tuple of the columns of the letters of a word; letters that are inverse differ in the last bit."""
    return tuple([column_of(letter) for letter in word])
