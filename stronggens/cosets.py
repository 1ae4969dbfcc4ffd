"""Coset tables by two methods, and the entries for which their rows were created."""

from stronggens.checks import check_presentation, check_words
from stronggens.enumerations import by_rows, by_scans
from stronggens.errors import BadMethod
from stronggens.grids import numbered


def coset_table(presentation, words, method):
    """Return the standard coset table of the rows that are alive in the end."""
    return numbered(_enumerated(presentation, words, method).rows)


def definitions(presentation, words, method):
    """Return the pairs (row, letter) of the entries for which the rows 1, 2, 3, .. were created."""
    return tuple(_enumerated(presentation, words, method).made)


def _enumerated(presentation, words, method):
    check_presentation(presentation)
    check_words(presentation[0], words)
    if type(method) is not str or method not in ("rows", "scans"):
        raise BadMethod("neither rows nor scans")
    if method == "rows":
        return by_rows(presentation, words)
    return by_scans(presentation, words)
