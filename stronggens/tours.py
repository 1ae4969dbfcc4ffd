"""Orbits under permutations: what is reached, by which words, and what fixes a point."""

from stronggens.errors import TooMany
from stronggens.forests import few
from stronggens.letters import letter_at
from stronggens.quick import compose, invert, unit

MOST_REACHED = 2000


def act_on_point(point, p):
    """Return the image of a point."""
    return p[point]


def act_on_points(points, p):
    """Return the tuple of the images of the points of a tuple."""
    return tuple([p[point] for point in points])


def reached(start, moves, act, most=MOST_REACHED):
    """Return a dict of all that start becomes by moves, again and again, in the order in which it is found.

    The value of start is None, each other value the pair of what it was found from and the index of the move.
    """
    roads = {start: None}
    queue = [start]
    at = 0
    while at < len(queue):
        for index, move in enumerate(moves):
            image = act(queue[at], move)
            if image not in roads:
                if len(queue) == most:
                    raise TooMany(most)
                roads[image] = (queue[at], index)
                queue.append(image)
        at += 1
    return roads


def orbit_of(generators, point):
    """Return the ascending tuple of the images of a point."""
    return tuple(sorted(reached(point, generators, act_on_point)))


def orbit_list(degree, generators):
    """Return the list of all orbits, ordered by their least points."""
    rows = [orbit_of(generators, point) for point in range(degree)]
    return [row for point, row in enumerate(rows) if row[0] == point]


def least_word(generators, one, other, act):
    """Return the least word that takes one to other, None if there is none."""
    moves = []
    for p in generators:
        moves.append(p)
        moves.append(invert(p))
    # Words are tried in their order, so the first one that is found is the least.
    roads = reached(one, moves, act)
    if other not in roads:
        return None
    letters = []
    while roads[other] is not None:
        other, index = roads[other]
        letters.append(letter_at(index))
    return tuple(reversed(letters))


def carry_table(degree, generators, point):
    """Return a dict from each image of a point to a product of generators that carries the point to it."""
    table = {point: unit(degree)}
    for image, road in reached(point, generators, act_on_point).items():
        if road is not None:
            table[image] = compose(table[road[0]], generators[road[1]])
    return table


def loops(generators, table):
    """Return the products that lead from the table's point along a generator and back to it."""
    found = []
    for image, carry in table.items():
        for p in generators:
            found.append(compose(compose(carry, p), invert(table[p[image]])))
    return found


def fixing(degree, generators, point):
    """Return few generators of the subgroup that fixes a point."""
    return few(loops(generators, carry_table(degree, generators, point)))
