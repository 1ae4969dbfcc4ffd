import itertools
import unittest

from brute import ODD_VALUES, all_perms, expect, members, shuffled
from stronggens.chains import order
from stronggens.errors import BadGraph
from stronggens.graphs import canonical_graph, graph_group, graph_map


def renamed(graph, p):
    return (graph[0], tuple(sorted(tuple(sorted((p[a], p[b]))) for a, b in graph[1])))


def graph_of(nodes, edges):
    return (nodes, tuple(sorted({tuple(sorted(edge)) for edge in edges})))


def all_edges(nodes):
    return list(itertools.combinations(range(nodes), 2))


def other_edges(graph):
    return (graph[0], tuple(edge for edge in all_edges(graph[0]) if edge not in graph[1]))


def ring_of(nodes, start=0):
    return [(start + k, start + (k + 1) % nodes) for k in range(nodes)]


def factorial(number):
    return 1 if number < 2 else number * factorial(number - 1)


def known():
    """Graphs with the numbers of permutations that rename them to themselves."""
    for n in (6, 7, 9, 12):
        yield graph_of(n, []), factorial(n)
        yield graph_of(n, all_edges(n)), factorial(n)
        yield graph_of(n, ring_of(n)), 2 * n
        yield graph_of(n, ring_of(n)[:-1]), 2
        yield graph_of(n, [(0, k) for k in range(1, n)]), factorial(n - 1)
    for n in (3, 4, 5, 6):
        yield graph_of(2 * n, [(a, n + b) for a in range(n) for b in range(n)]), 2 * factorial(n) ** 2
        yield graph_of(2 * n, [(2 * k, 2 * k + 1) for k in range(n)]), 2 ** n * factorial(n)
        yield graph_of(2 * n, [edge for edge in all_edges(2 * n) if edge[0] // 2 != edge[1] // 2]), 2 ** n * factorial(n)
    for n in (3, 5, 6):
        yield graph_of(2 * n, ring_of(n) + ring_of(n, n) + [(k, k + n) for k in range(n)]), 4 * n
    for a, b in ((2, 5), (3, 8), (4, 7)):
        yield graph_of(a + b, [(x, a + y) for x in range(a) for y in range(b)]), factorial(a) * factorial(b)
    yield graph_of(8, [(a, a ^ b) for a in range(8) for b in (1, 2, 4)]), 48
    yield graph_of(10, ring_of(5) + [(k, k + 5) for k in range(5)] + [(5 + k, 5 + (k + 2) % 5) for k in range(5)]), 120
    yield graph_of(12, ring_of(4) + ring_of(4, 4) + ring_of(4, 8)), 8 ** 3 * 6
    yield graph_of(12, ring_of(6) + ring_of(6, 6)), 12 ** 2 * 2
    yield graph_of(12, ring_of(3) + ring_of(3, 3) + ring_of(3, 6) + ring_of(3, 9)), 6 ** 4 * 24
    yield graph_of(9, [edge for edge in all_edges(9) if edge[0] // 3 == edge[1] // 3 or edge[0] % 3 == edge[1] % 3]), 72
    tips = [(0, k) for k in range(1, 6)] + [(11, k) for k in range(6, 11)]
    rings = [(k, k % 5 + 1) for k in range(1, 6)] + [(k + 5, k % 5 + 6) for k in range(1, 6)]
    yield graph_of(12, tips + rings + [(k, k + 5) for k in range(1, 6)] + [(k, k % 5 + 6) for k in range(1, 6)]), 120


def some_graphs(nodes, many):
    """Graphs with more and more edges, in some order."""
    pairs = all_edges(nodes)
    for seed in range(many):
        chosen = [pair for place, pair in enumerate(pairs) if shuffled(12, seed * 50 + place)[0] <= seed % 10]
        yield graph_of(nodes, chosen)


class TestSmallGraphs(unittest.TestCase):
    def test_all_permutations(self):
        for nodes in range(1, 6):
            perms = all_perms(nodes)
            pairs = all_edges(nodes)
            for mask in range(2 ** len(pairs)):
                graph = (nodes, tuple(pair for k, pair in enumerate(pairs) if mask >> k & 1))
                images = [renamed(graph, p) for p in perms] if mask % 3 == 0 or nodes < 5 else []
                if images:
                    self.assertEqual(canonical_graph(graph), min(images))
                    self.assertEqual(members(graph_group(graph)), [p for p, image in zip(perms, images) if image == graph])

    def test_six_and_seven_nodes(self):
        for nodes, many in ((6, 20), (7, 4)):
            perms = all_perms(nodes)
            for graph in some_graphs(nodes, many):
                images = [renamed(graph, p) for p in perms]
                self.assertEqual(canonical_graph(graph), min(images))
                self.assertEqual(members(graph_group(graph)), [p for p, image in zip(perms, images) if image == graph])

    def test_maps_of_all_pairs(self):
        for nodes in (1, 2, 3, 4):
            perms, pairs = all_perms(nodes), all_edges(nodes)
            graphs = [(nodes, tuple(pair for k, pair in enumerate(pairs) if mask >> k & 1)) for mask in range(2 ** len(pairs))]
            for graph, other in itertools.product(graphs, repeat=2):
                told = graph_map(graph, other)
                self.assertEqual(told is not None, any(renamed(graph, p) == other for p in perms))
                if told is not None:
                    self.assertEqual(renamed(graph, told), other)


class TestKnownGraphs(unittest.TestCase):
    def test_groups(self):
        for graph, many in known():
            for told in (graph, other_edges(graph), renamed(graph, shuffled(graph[0], 3))):
                group = graph_group(told)
                self.assertEqual(group[0], graph[0])
                self.assertLessEqual(len(group[1]), 12)
                self.assertTrue(all(renamed(told, p) == told for p in group[1]))
                self.assertEqual(order(group), many)

    def test_canonical_ones(self):
        seen = {}
        for graph, _ in known():
            told = canonical_graph(graph)
            for seed in range(4):
                self.assertEqual(canonical_graph(renamed(graph, shuffled(graph[0], seed))), told)
            # A renamed graph, so of no less edges than the graph itself if that is the least one.
            self.assertIsNotNone(graph_map(graph, told))
            self.assertLessEqual(told, min(renamed(graph, shuffled(graph[0], seed)) for seed in range(40)))
            seen.setdefault(told, []).append(graph)
        for told in seen.values():
            for graph, other in itertools.combinations(told, 2):
                self.assertIsNotNone(graph_map(graph, other))
        self.assertEqual(canonical_graph(graph_of(12, ring_of(12)))[1][:4], ((0, 1), (0, 2), (1, 3), (2, 4)))
        self.assertEqual(canonical_graph(graph_of(6, [(4, 5)])), (6, ((0, 1),)))
        self.assertEqual(canonical_graph((4, ((0, 1), (0, 2), (1, 2)))), canonical_graph((4, ((1, 2), (1, 3), (2, 3)))))

    def test_renamed_graphs(self):
        for graph in [graph for graph, _ in known()] + list(some_graphs(12, 12)):
            for seed in (1, 2):
                other = renamed(graph, shuffled(graph[0], seed))
                self.assertEqual(renamed(graph, graph_map(graph, other)), other)

    def test_one_edge_changed(self):
        kinds = {True: 0, False: 0}
        for graph in [graph for graph, _ in known()] + list(some_graphs(12, 12)) + list(some_graphs(8, 12)):
            free = [edge for edge in all_edges(graph[0]) if edge not in graph[1]]
            for seed in range(4):
                if free and graph[1]:
                    gone, new = graph[1][seed * 5 % len(graph[1])], free[seed * 7 % len(free)]
                    other = renamed(graph_of(graph[0], [edge for edge in graph[1] if edge != gone] + [new]), shuffled(graph[0], seed))
                    told = graph_map(graph, other)
                    alike = canonical_graph(graph) == canonical_graph(other)
                    self.assertEqual(told is not None, alike)
                    if alike:
                        self.assertEqual(renamed(graph, told), other)
                    kinds[alike] += 1
        self.assertGreater(min(kinds.values()), 10)

    def test_alike_in_all_degrees(self):
        one, two = graph_of(12, ring_of(6) + ring_of(6, 6)), graph_of(12, ring_of(4) + ring_of(8, 4))
        self.assertIsNone(graph_map(one, two))
        self.assertIsNone(graph_map(one, graph_of(12, ring_of(12))))
        prism = graph_of(6, ring_of(3) + ring_of(3, 3) + [(0, 3), (1, 4), (2, 5)])
        parts = graph_of(6, [(a, b) for a in range(3) for b in range(3, 6)])
        self.assertIsNone(graph_map(prism, parts))
        self.assertNotEqual(canonical_graph(prism), canonical_graph(parts))

    def test_other_numbers(self):
        self.assertIsNone(graph_map((3, ()), (4, ())))
        self.assertIsNone(graph_map((3, ((0, 1),)), (3, ())))
        self.assertIsNone(graph_map((3, ()), (3, ((0, 1),))))
        self.assertEqual(graph_map((1, ()), (1, ())), (0,))
        self.assertEqual(canonical_graph((1, ())), (1, ()))


class TestErrors(unittest.TestCase):
    wrong = ODD_VALUES + (
        (0, ()), (13, ()), (-1, ()), (True, ()), ("3", ()), (3, []), (3, None), (3, {}), (3, ((0, 1), (0, 1))), (3, ((0, 2), (0, 1))), (3, ((1, 0),)),
        (3, ((1, 1),)), (3, ((0, 3),)), (3, ((-1, 0),)), (3, ((0, 1, 2),)), (3, ((0,),)), (3, (0, 1)), (3, ([0, 1],)), (3, ((0, True),)), (3, ((False, 1),)),
        (3, ((0, "1"),)), (3, ((0, [1]),)), (3, ({},)), (3, "01"), (3, ()) * 2, [3, ()], ((3, ()),), (3, ((0, 1), None)), (12, ((0, 12),)), (2, (((0,), 1),)),
    )

    def test_bad_graphs(self):
        good = (3, ((0, 1),))
        for value in self.wrong:
            expect(self, BadGraph, {}, graph_group, value)
            expect(self, BadGraph, {}, canonical_graph, value)
            expect(self, BadGraph, {}, graph_map, value, good)
            expect(self, BadGraph, {}, graph_map, good, value)
        self.assertEqual(canonical_graph((12, ((10, 11),))), (12, ((0, 1),)))


if __name__ == "__main__":
    unittest.main()
