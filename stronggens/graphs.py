"""Graphs of at most twelve nodes: the permutations that rename one to itself or to another, and canonical ones."""

from stronggens.checks import is_degree, is_point, is_tuple_of
from stronggens.errors import BadGraph
from stronggens.searches import Renaming, Search
from stronggens.tours import fixing, orbit_of


def graph_group(graph):
    """Return a group whose elements are the permutations that rename a graph to itself."""
    _check_graph(graph)
    return graph[0], tuple(_generators(graph))


def canonical_graph(graph):
    """Return the graph with the least edges among all that permutations make of a graph by renaming."""
    _check_graph(graph)
    nodes, edges = graph
    names = [0] * nodes
    for name, node in enumerate(_least_order(nodes, _neighbors(graph), _generators(graph))):
        names[node] = name
    pairs = [(names[a], names[b]) for a, b in edges]
    return nodes, tuple(sorted([(min(a, b), max(a, b)) for a, b in pairs]))


def graph_map(graph, other):
    """Return a permutation that renames one graph to another one, None if there is none."""
    _check_graph(graph)
    _check_graph(other)
    if graph[0] != other[0] or len(graph[1]) != len(other[1]):
        return None
    points = _points(graph)
    return Search(points, [Renaming(_neighbors(graph), _neighbors(other), points)]).any_one(_generators(other))


def _check_graph(value):
    if not is_tuple_of(value, 2) or not is_degree(value[0]) or type(value[1]) is not tuple:
        raise BadGraph("not a pair of a number of nodes from 1 to 12 and a tuple of edges")
    if not all([_is_edge(value[0], edge) for edge in value[1]]):
        raise BadGraph("some edge is not an ascending pair of nodes")
    if list(value[1]) != sorted(set(value[1])):
        raise BadGraph("the edges are not in ascending order")


def _is_edge(nodes, value):
    return is_tuple_of(value, 2) and is_point(nodes, value[0]) and is_point(nodes, value[1]) and value[0] < value[1]


def _neighbors(graph):
    """Return the list of the ascending lists of the neighbors of all nodes."""
    rows = [[] for _ in range(graph[0])]
    for a, b in graph[1]:
        rows[a].append(b)
        rows[b].append(a)
    return rows


def _generators(graph):
    points = _points(graph)
    neighbors = _neighbors(graph)
    return Search(points, [Renaming(neighbors, neighbors, points)]).generated()


def _points(graph):
    """Return all nodes, each one behind a neighbor where there is one."""
    neighbors = _neighbors(graph)
    points = []
    for start in range(graph[0]):
        if start not in points:
            at = len(points)
            points.append(start)
            while at < len(points):
                for node in neighbors[points[at]]:
                    if node not in points:
                        points.append(node)
                at += 1
    return points


def _least_order(nodes, neighbors, generators):
    """Return the nodes in an order that gives the least edges when it names them 0, 1, 2, ..

    The nodes that are left stand in cells, in the order in which they will be named. The next one comes from the first
    cell, and its neighbors go ahead of the others in each cell: the more of them are in the first cells, the less are
    the edges. Of what leads to equal edges so far, all is kept but what leads to the same cells, or what one of the
    permutations that rename the graph, and fix the nodes named so far, makes of something kept.
    """
    kept = [((), [list(range(nodes))], generators)]
    for _ in range(nodes):
        best = None
        fresh = {}
        for order, cells, movers in kept:
            for node in cells[0]:
                if orbit_of(movers, node)[0] == node:
                    counts, parted = _parted(cells, node, neighbors[node])
                    if best is None or counts > best:
                        best = counts
                        fresh = {}
                    if counts == best:
                        fresh.setdefault(parted, (order + (node,), movers))
        kept = [(order, [list(cell) for cell in parted], _still(nodes, movers, order[-1]))
                for parted, (order, movers) in fresh.items()]
    return kept[0][0]


def _still(nodes, movers, node):
    """Return generators of the group of what the movers make and that fixes a node."""
    return fixing(nodes, movers, node) if movers else movers


def _parted(cells, node, near):
    """Return the numbers of a node's neighbors in the cells, and the cells without it, its neighbors ahead."""
    counts = []
    parted = []
    for cell in cells:
        some = tuple([x for x in cell if x in near])
        others = tuple([x for x in cell if x not in near and x != node])
        counts.append(len(some))
        parted.extend([row for row in (some, others) if row])
    return counts, tuple(parted)
