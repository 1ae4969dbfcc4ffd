"""Classes of subgroups, the table of marks, and what G-sets and rows of integers say by it (W. Burnside, 1911)."""

from stronggens.actions import MOST_SIZE, check_acting, check_gset, fixed_by, images_by
from stronggens.checks import is_between, is_tuple_of
from stronggens.errors import BadRow, TooMany
from stronggens.frames import widened
from stronggens.lattices import Lattice
from stronggens.mappings import factor_group
from stronggens.tours import orbit_list

MOST_ELEMENTS = 60


def subgroup_classes(group):
    """Return the list of the classes of conjugate subgroups, each an ascending tuple of element lists."""
    lattice = Lattice(group, MOST_ELEMENTS)
    return [tuple([lattice.frame.written(part) for part in row]) for row in lattice.classes]


def marks(group):
    """Return, for classes i and j, how many cosets of the representative of i that of j fixes."""
    return _marks(Lattice(group, MOST_ELEMENTS))


def row_of(group, gset):
    """Return the tuple of the numbers of points that the representatives of the classes fix."""
    lattice = Lattice(group, MOST_ELEMENTS)
    check_gset(group, gset)
    images = images_by(group, gset)
    return tuple([len(fixed_by([images[p] for p in lattice.frame.written(part)], len(gset[0])))
                  for part in lattice.heads()])


def parts_of(group, gset):
    """Return, for each class, how many orbits are isomorphic to the coset set of its representative."""
    lattice = Lattice(group, MOST_ELEMENTS)
    check_gset(group, gset)
    images = images_by(group, gset)
    counts = [0] * len(lattice.classes)
    for row in orbit_list(len(gset[0]), gset):
        numbers = [number for number, p in enumerate(lattice.frame.rows) if images[p][row[0]] == row[0]]
        counts[lattice.place_of(numbers)] += 1
    return tuple(counts)


def gset_of(group, parts):
    """Return the G-set that has so many orbits isomorphic to the coset sets of the representatives."""
    check_acting(group)
    lattice = Lattice(group, MOST_ELEMENTS)
    heads = lattice.heads()
    _check_counts(len(heads), parts)
    if sum([many * lattice.many_cosets(part) for many, part in zip(parts, heads)]) > MOST_SIZE:
        raise TooMany(MOST_SIZE)
    moves = [[] for _ in group[1]]
    for many, part in zip(parts, heads):
        told = factor_group(group[1], lattice.frame.rows, lattice.frame.written(part))[1]
        for _ in range(many):
            moves = [move + [len(move) + x for x in p] for move, p in zip(moves, told)]
    return tuple([tuple(move) for move in moves])


def virtual_parts(group, row):
    """Return the integers by which the rows of the table of marks add up to a row, None if there are none."""
    lattice = Lattice(group, MOST_ELEMENTS)
    _check_row(len(lattice.classes), row)
    table = _marks(lattice)
    left = list(row)
    parts = []
    # Behind the diagonal all entries are 0, so the last column tells how often the last row is taken, and so on.
    for at in reversed(range(len(table))):
        if left[at] % table[at][at] != 0:
            return None
        many = left[at] // table[at][at]
        parts.append(many)
        left = [entry - many * mark for entry, mark in zip(left, table[at])]
    return tuple(reversed(parts))


def row_flaw(group, row):
    """Return the first class whose congruence does not hold, with its sum and divisor; None if all hold."""
    lattice = Lattice(group, MOST_ELEMENTS)
    _check_row(len(lattice.classes), row)
    for index, part in enumerate(lattice.heads()):
        places = _cyclic_places(lattice, part)
        total = sum([row[place] for place in places])
        if total % len(places) != 0:
            return index, total, len(places)
    return None


def _marks(lattice):
    rows = []
    for part in lattice.heads():
        row = []
        for others in lattice.classes:
            # As many elements carry the first subgroup of a class to each one of them.
            inside = len([other for other in others if other.lies_in(part)])
            row.append(inside * len(lattice.frame.rows) // (len(others) * len(part.numbers)))
        rows.append(tuple(row))
    return tuple(rows)


def _cyclic_places(lattice, part):
    """Return, for each coset of a subgroup in its normalizer, the place of what the two generate."""
    places = []
    seen = set()
    for n in lattice.normalizing(part):
        if n not in seen:
            for number in part.numbers:
                seen.add(lattice.frame.table[number][n])
            places.append(lattice.place_of(widened(lattice.frame, part, n).numbers))
    return places


def _check_counts(many, value):
    """Raise BadRow unless a value is a tuple of so many integers from 0 to 60, not all of them 0."""
    if not is_tuple_of(value, many) or all(type(entry) is int and entry == 0 for entry in value):
        raise BadRow(None)
    for index, entry in enumerate(value):
        if not is_between(entry, 0, MOST_SIZE):
            raise BadRow(index)


def _check_row(many, value):
    """Raise BadRow unless a value is a tuple of so many integers."""
    if not is_tuple_of(value, many):
        raise BadRow(None)
    for index, entry in enumerate(value):
        if type(entry) is not int:
            raise BadRow(index)
