"""All subgroups of a small group, the normal and the maximal ones, and what no set of generators needs."""

from stronggens.checks import check_group
from stronggens.frames import Frame, all_parts, is_normal
from stronggens.members import check_element
from stronggens.towers import listed

MOST_ELEMENTS = 60


def subgroups(group):
    """Return the list of all subgroups as element lists."""
    frame = _frame(group)
    return [frame.written(part) for part in all_parts(frame)]


def normal_subgroups(group):
    """Return the list of all normal subgroups as element lists."""
    frame = _frame(group)
    by = [frame.numbers[p] for p in group[1]]
    return [frame.written(part) for part in all_parts(frame) if is_normal(frame, part, by)]


def maximal_subgroups(group):
    """Return the list of the subgroups, as element lists, that lie in no other one but the group."""
    frame = _frame(group)
    return [frame.written(part) for part in _maximal(frame)]


def frattini(group):
    """Return the element list of the meet of all maximal subgroups, of the group if there is none."""
    frame = _frame(group)
    maximal = _maximal(frame)
    return tuple([p for number, p in enumerate(frame.rows) if all([part.holds(number) for part in maximal])])


def is_non_generator(group, p):
    """Tell whether each set that generates the group together with p generates it alone."""
    check_group(group)
    check_element(group, p)
    return p in frattini(group)


def _frame(group):
    return Frame(listed(group, MOST_ELEMENTS))


def _maximal(frame):
    """Return the parts that lie in no other one but the whole."""
    proper = all_parts(frame)[:-1]
    return [part for part in proper if len([other for other in proper if part.lies_in(other)]) == 1]
