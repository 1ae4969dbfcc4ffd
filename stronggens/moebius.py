"""The numbers of Moebius for the subgroups of a small group, and how many tuples generate it (P. Hall, 1936)."""

from stronggens.arithmetic import raised
from stronggens.checks import check_number
from stronggens.frames import Frame, all_parts
from stronggens.towers import listed

MOST_ELEMENTS = 60
MOST_LENGTH = 20


def moebius(group):
    """Return the list of all subgroups as element lists, each with its number."""
    frame = Frame(listed(group, MOST_ELEMENTS))
    return [(frame.written(part), number) for part, number in _numbered(frame)]


def generating_tuples(group, many):
    """Return the number of tuples of so many elements that generate the group."""
    frame = Frame(listed(group, MOST_ELEMENTS))
    check_number(many, 0, MOST_LENGTH)
    return sum([number * raised(len(part.numbers), many) for part, number in _numbered(frame)])


def _numbered(frame):
    """Return the list of the pairs of a subgroup and its number."""
    found = []
    for part in reversed(all_parts(frame)):
        above = sum([number for other, number in found if part.lies_in(other)])
        found.append((part, -above if found else 1))
    return list(reversed(found))
