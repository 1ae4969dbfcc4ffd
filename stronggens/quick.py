"""Permutations without checks, for use inside the package."""

from math import lcm


def unit(degree):
    """Return the permutation that fixes every point."""
    return tuple(range(degree))


def compose(p, q):
    """Return the product that applies p first."""
    return tuple([q[x] for x in p])


def invert(p):
    """Return the inverse of p."""
    images = [0] * len(p)
    for point, target in enumerate(p):
        images[target] = point
    return tuple(images)


def conjugated(p, g):
    """Return the product of the inverse of g, p and g."""
    images = [0] * len(p)
    for point, target in enumerate(p):
        images[g[point]] = g[target]
    return tuple(images)


def full_cycles(p):
    """Return the list of all cycles of p by their least points, with those of one point."""
    rows = []
    seen = set()
    for first in range(len(p)):
        if first not in seen:
            row = []
            point = first
            while point not in seen:
                seen.add(point)
                row.append(point)
                point = p[point]
            rows.append(tuple(row))
    return rows


def from_cycles(degree, rows):
    """Return the permutation that carries each point of a row to the next one, the last to the first."""
    images = list(range(degree))
    for row in rows:
        for place, point in enumerate(row):
            images[point] = row[(place + 1) % len(row)]
    return tuple(images)


def all_lengths(p):
    """Return the ascending tuple of the lengths of all cycles."""
    return tuple(sorted([len(row) for row in full_cycles(p)]))


def period(p):
    """Return the smallest positive exponent whose power is the identity."""
    least = 1
    for length in all_lengths(p):
        least = lcm(least, length)
    return least


def least_moved(p):
    """Return the least point that p moves, None for the identity."""
    for point, target in enumerate(p):
        if point != target:
            return point
    return None
