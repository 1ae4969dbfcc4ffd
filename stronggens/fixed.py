"""Fixed points: numbers of colorings, elements without fixed points, and regular subgroups."""

from itertools import permutations

from stronggens.checks import (
    check_group, check_number, check_point, is_between, is_permutation, is_row, is_tuple_of,
)
from stronggens.errors import BadColoring, BadCounts, NotRegular, NotTransitive, TooMany
from stronggens.orbits import is_transitive
from stronggens.quick import all_lengths, compose, conjugated, full_cycles, invert, unit
from stronggens.sifting import membership
from stronggens.tours import reached
from stronggens.towers import listed, tower_of

MOST_LISTED = 2000
MOST_COLORS = 6
MOST_PATTERN_COLORS = 4


def colorings(group, colors):
    """Return the number of orbits of all colorings with so many colors."""
    check_group(group)
    check_number(colors, 0, MOST_COLORS)
    return _mean([(_product([colors for _ in lengths]), number) for lengths, number in cycle_index(group)])


def colorings_with(group, counts):
    """Return the number of orbits of the colorings in which each color is used so often."""
    check_group(group)
    if not _are_counts(group[0], counts):
        raise BadCounts("not at most 6 numbers that add up to the degree")
    return _mean([(_ways(lengths, counts), number) for lengths, number in cycle_index(group)])


def patterns(group, colors):
    """Return the number of orbits of all colorings with so many colors, if the colors may be renamed."""
    check_group(group)
    check_number(colors, 0, MOST_PATTERN_COLORS)
    renamings = [full_cycles(renaming) for renaming in permutations(range(colors))]
    rows = cycle_index(group)
    pairs = [(sum([_kept(lengths, renaming) for renaming in renamings]), number) for lengths, number in rows]
    return _mean(pairs) // len(renamings)


def cycle_index(group):
    """Return the ascending list of the pairs of the lengths of all cycles and the number of elements with them."""
    numbers = {}
    for p in listed(group, MOST_LISTED):
        lengths = all_lengths(p)
        numbers[lengths] = numbers.get(lengths, 0) + 1
    return sorted(numbers.items())


def least_coloring(group, coloring):
    """Return the least coloring in the orbit of a coloring."""
    check_group(group)
    degree, generators = group
    if not is_tuple_of(coloring, degree) or not all(is_between(color, 0, MOST_COLORS - 1) for color in coloring):
        raise BadColoring("not a color from 0 to 5 for each point")
    # A product with the inverse ahead of it gives the image of each point the color of the point.
    backs = [invert(p) for p in generators]
    return min(list(reached(coloring, backs, _recolored, MOST_LISTED)))


def unfixed_count(group):
    """Return the number of elements that fix no point."""
    return len(_unfixed_rows(group))


def unfixed(group):
    """Return a program whose value is an element that fixes no point, None if there is none."""
    rows = _unfixed_rows(group)
    return membership(group, rows[0]) if rows else None


def frobenius_kernel(group):
    """Return the identity and all elements that fix no point, None if the group is not as Frobenius asks."""
    check_group(group)
    rows = listed(group, MOST_LISTED)
    numbers = [_fixed_number(p) for p in rows[1:]]
    if not is_transitive(group) or max(numbers, default=0) != 1:
        return None
    return rows[:1] + tuple([p for p in rows if _fixed_number(p) == 0])


def regular_normal(group):
    """Return the list of all regular normal subgroups of a transitive group."""
    if not is_transitive(group):
        raise NotTransitive("the group has more than one orbit")
    degree, generators = group
    parts = [_normal_part(degree, generators, p) for p in _unfixed_rows(group)]
    bottom = (unit(degree),)
    # A regular normal subgroup joins the least normal subgroups that its elements lie in.
    found = reached(bottom, [part for part in parts if part is not None], _joined, MOST_LISTED)
    return sorted([part for part in found if len(part) == degree])


def carriers(group, rows, point):
    """Return the elements of a regular subgroup that take a point to each point, in ascending order."""
    check_group(group)
    if not _is_regular(group, rows):
        raise NotRegular("not the element list of a regular subgroup")
    check_point(group[0], point)
    return tuple(sorted(rows, key=lambda p: p[point]))


def _mean(pairs):
    """Return the mean of values, each of which is told with the number of elements that have it."""
    return sum([value * number for value, number in pairs]) // sum([number for _, number in pairs])


def _product(numbers):
    made = 1
    for number in numbers:
        made = made * number
    return made


def _are_counts(degree, value):
    if not is_row(value, MOST_COLORS):
        return False
    return all(is_between(count, 0, degree) for count in value) and sum(value) == degree


def _ways(lengths, counts):
    """Return in how many ways cycles of these lengths are colored if each color is used as often as told."""
    ways = {counts: 1}
    for length in lengths:
        further = {}
        for left, number in ways.items():
            for color, count in enumerate(left):
                if count >= length:
                    rest = left[:color] + (count - length,) + left[color + 1:]
                    further[rest] = further.get(rest, 0) + number
        ways = further
    return sum(ways.values())


def _kept(lengths, renaming):
    """Return how many colorings with cycles of these lengths stay the same, the colors being renamed by cycles.

    Around a cycle the color is renamed once for each point, and has to come back.
    """
    return _product([sum([len(row) for row in renaming if length % len(row) == 0]) for length in lengths])


def _recolored(coloring, back):
    """Return the coloring to which a permutation, told by its inverse, takes a coloring."""
    return tuple([coloring[point] for point in back])


def _fixed_number(p):
    return len([point for point, target in enumerate(p) if point == target])


def _unfixed_rows(group):
    """Return the list of the elements that fix no point."""
    return [p for p in listed(group, MOST_LISTED) if _fixed_number(p) == 0]


def _semiregular(degree, perms):
    """Return the elements of the group of permutations, None if one but the identity fixes a point."""
    try:
        rows = sorted(reached(unit(degree), perms, compose, degree))
    except TooMany:
        # With more elements than points, two of them take point 0 to one point.
        return None
    return tuple(rows) if all(_fixed_number(p) == 0 for p in rows[1:]) else None


def _normal_part(degree, generators, p):
    """Return the least normal subgroup with an element, None if it has fixed points."""
    try:
        rows = list(reached(p, generators, conjugated, degree))
    except TooMany:
        return None
    return _semiregular(degree, rows)


def _joined(part, other):
    """Return the group of the elements of both, the part alone if it would have fixed points."""
    both = _semiregular(len(part[0]), part + other)
    return part if both is None else both


def _is_regular(group, rows):
    """Tell whether rows are the element list of a regular subgroup of the group."""
    degree = group[0]
    if not is_tuple_of(rows, degree) or not all(is_permutation(degree, p) for p in rows):
        return False
    if list(rows) != sorted(rows) or sorted([p[0] for p in rows]) != list(range(degree)):
        return False
    known = {p: True for p in rows}
    if not all(compose(p, q) in known for p in rows for q in rows):
        return False
    tower = tower_of(group)
    return all([tower.holds(p) for p in rows])
