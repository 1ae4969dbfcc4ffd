"""Few generators for a group of permutations (M. Jerrum, 1986)."""

from stronggens.quick import compose, invert, least_moved


def edge_of(p):
    """Return the pair of the least point that p moves and its image, None for the identity."""
    point = least_moved(p)
    return None if point is None else (point, p[point])


def way(edges, start, end):
    """Return the list of points on the way from start to end along edges that form no cycle, None if there is none."""
    ways = {start: [start]}
    queue = [start]
    while queue:
        point = queue.pop()
        for a, b in edges:
            for here, there in ((a, b), (b, a)):
                if here == point and there not in ways:
                    ways[there] = ways[point] + [there]
                    queue.append(there)
    return ways[end] if end in ways else None


def few(perms):
    """Return a list of permutations that generate the same group and whose edges form no cycle."""
    kept = {}
    for p in perms:
        edge = edge_of(p)
        while edge is not None:
            ring = way(list(kept), edge[1], edge[0])
            if ring is None:
                kept[edge] = p
                edge = None
            else:
                p = _opened(kept, ring, edge, p)
                edge = edge_of(p)
    return list(kept.values())


def _opened(kept, ring, edge, p):
    """Keep p, take the edge at the least point of the ring out, and return what then has still to be kept.

    The ring begins and ends with the two points of the edge of p. The product once around it, from its least point,
    fixes that point and all below it, so the edges that are left to be kept begin at ever greater points.
    """
    start = ring.index(min(ring))
    points = ring[start:] + ring[:start]
    around = p
    for place, here in enumerate(points):
        there = points[(place + 1) % len(points)]
        label = _label(kept, edge, p, here, there)
        around = label if place == 0 else compose(around, label)
    first = (points[0], points[1])
    if first != edge:
        del kept[first]
        kept[edge] = p
    return around


def _label(kept, edge, p, here, there):
    """Return the permutation that leads along one edge of a ring."""
    if (here, there) == edge:
        return p
    return kept[(here, there)] if here < there else invert(kept[(there, here)])
