"""Permutations as texts of cycles."""

from stronggens.checks import check_any_permutation, check_degree
from stronggens.errors import InvalidText, NotText
from stronggens.quick import from_cycles, full_cycles

DIGITS = "0123456789"
LONGEST_NUMBER = 2


def write(p):
    """Return the text of a permutation."""
    check_any_permutation(p)
    rows = [row for row in full_cycles(p) if len(row) > 1]
    return "".join([_write_cycle(row) for row in rows]) if rows else "()"


def _write_cycle(row):
    points = " ".join([str(point) for point in row])
    return f"({points})"


def read(degree, text):
    """Return the permutation of a degree that a text names."""
    check_degree(degree)
    if type(text) is not str:
        raise NotText("not a string")
    rows = []
    used = []
    place = 0
    while place < len(text):
        if text[place] == "(":
            row, place = _read_cycle(degree, text, place + 1, used)
            rows.append(row)
            used = used + row
        elif text[place] == " ":
            place += 1
        else:
            raise InvalidText(place)
    if not rows:
        raise InvalidText(len(text))
    return from_cycles(degree, rows)


def _read_cycle(degree, text, place, used):
    """Return the points of a cycle and the place behind it; the place is that behind its opening parenthesis."""
    row = []
    while place < len(text) and text[place] != ")":
        if text[place] in DIGITS:
            end = _end_of_number(text, place)
            point = _named_point(degree, text[place:end])
            if point is None or point in used or point in row:
                raise InvalidText(place)
            row.append(point)
            place = end
        elif text[place] == " ":
            place += 1
        else:
            raise InvalidText(place)
    if place == len(text):
        raise InvalidText(place)
    return row, place + 1


def _end_of_number(text, place):
    while place < len(text) and text[place] in DIGITS:
        place += 1
    return place


def _named_point(degree, digits):
    """Return the point that digits name, None if they name none."""
    # A long row of digits is not turned into an integer: Python limits that.
    if len(digits) > LONGEST_NUMBER or (len(digits) > 1 and digits[0] == "0"):
        return None
    point = int(digits)
    return point if point < degree else None
