"""What different modules say of the same things."""

import itertools
import unittest

from brute import members, symmetric
from stronggens.chains import order
from stronggens.cosets import coset_table
from stronggens.fixed import colorings, colorings_with, cycle_index
from stronggens.graphs import canonical_graph, graph_group
from stronggens.gsets import coset_set, is_gset, same_gsets
from stronggens.marks import gset_of, parts_of, row_of
from stronggens.pointsets import least_sets, set_counts
from stronggens.schreier import presentation_of
from stronggens.tables import standard

GRAPHS = {1: 1, 2: 2, 3: 4, 4: 11, 5: 34}


def pairs_of(nodes):
    return list(itertools.combinations(range(nodes), 2))


def pair_group(nodes):
    """The symmetric group of the nodes on the pairs of nodes."""
    pairs = pairs_of(nodes)
    return (len(pairs), tuple(tuple(pairs.index(tuple(sorted((p[a], p[b])))) for a, b in pairs) for p in symmetric(nodes)[1]))


class TestGraphsUpToRenaming(unittest.TestCase):
    def test_cycles(self):
        for nodes in (3, 4, 5):
            group = pair_group(nodes)
            total = sum(2 ** len(lengths) * many for lengths, many in cycle_index(group))
            self.assertEqual(total, GRAPHS[nodes] * order(group))

    def test_least_sets(self):
        for nodes in (2, 3, 4, 5):
            group = pair_group(nodes)
            self.assertEqual(sum(set_counts(group)), GRAPHS[nodes])
            for size in range(group[0] + 1):
                graphs = {canonical_graph((nodes, tuple(pairs_of(nodes)[k] for k in told))) for told in least_sets(group, size)}
                self.assertEqual(len(graphs), set_counts(group)[size])

    def test_least_sets_are_canonical_graphs(self):
        for nodes in (3, 4, 5):
            pairs = pairs_of(nodes)
            for size in range(len(pairs) + 1):
                for told in least_sets(pair_group(nodes), size):
                    graph = (nodes, tuple(pairs[k] for k in told))
                    self.assertEqual(canonical_graph(graph), graph)

    def test_canonical_graphs(self):
        for nodes in GRAPHS:
            pairs = pairs_of(nodes)
            graphs = [(nodes, told) for size in range(len(pairs) + 1) for told in itertools.combinations(pairs, size)]
            counts = {}
            for graph in graphs:
                counts[canonical_graph(graph)] = counts.get(canonical_graph(graph), 0) + 1
            self.assertEqual(len(counts), GRAPHS[nodes])
            for graph, many in counts.items():
                self.assertEqual(many * order(graph_group(graph)), order(symmetric(nodes)))

    def test_colorings(self):
        for nodes in (2, 3, 4, 5):
            group = pair_group(nodes)
            self.assertEqual(colorings(group, 2), GRAPHS[nodes])
            for size in range(group[0] + 1):
                self.assertEqual(colorings_with(group, (group[0] - size, size)), set_counts(group)[size])

    def test_orbits_of_a_gset(self):
        """The graphs on four nodes, by their numbers of edges, are the points of a G-set of all permutations of the nodes."""
        group = symmetric(4)
        total = 0
        for size in range(7):
            graphs = list(itertools.combinations(range(6), size))
            gset = tuple(tuple(graphs.index(tuple(sorted(p[k] for k in graph))) for graph in graphs) for p in pair_group(4)[1])
            self.assertTrue(is_gset(group, gset))
            parts = parts_of(group, gset)
            self.assertEqual(sum(parts), set_counts(pair_group(4))[size])
            self.assertIsNotNone(same_gsets(group, gset, gset_of(group, parts)))
            self.assertEqual(row_of(group, gset)[0], len(graphs))
            total += sum(parts)
        self.assertEqual(total, GRAPHS[4])


class TestCosets(unittest.TestCase):
    def columns(self, table):
        """The images of the rows by the generators, without those by their inverses."""
        return tuple(tuple(row[k] for row in table) for k in range(0, len(table[0]), 2))

    def test_columns_are_a_gset(self):
        many = 0
        for group in (symmetric(3), symmetric(4), (4, ((1, 2, 3, 0), (0, 3, 2, 1))), (5, ((1, 2, 3, 4, 0), (1, 2, 0, 3, 4)))):
            presentation = presentation_of(group)
            for words in ((), ((1,),), ((2,),), ((1, 2),), ((1, 1), (2,))):
                part = (group[0], tuple(self.worth(group, word) for word in words))
                table = coset_table(presentation, words, "rows")
                if len(table) <= 60:
                    gset = self.columns(table)
                    self.assertTrue(is_gset(group, gset))
                    self.assertEqual(len(table) * order(part), order(group))
                    told = same_gsets(group, gset, coset_set(group, part))
                    self.assertEqual(sorted(told), list(range(len(table))))
                    self.assertEqual(self.columns(standard(table)), self.columns(standard(coset_table(presentation, words, "scans"))))
                    many += 1
        self.assertGreaterEqual(many, 18)

    def worth(self, group, word):
        p = tuple(range(group[0]))
        for letter in word:
            p = tuple(group[1][letter - 1][x] for x in p)
        return p

    def test_as_many_as_elements(self):
        for group in (symmetric(3), symmetric(4)):
            table = coset_table(presentation_of(group), (), "scans")
            self.assertEqual(len(table), len(members(group)))
            self.assertIsNotNone(same_gsets(group, self.columns(table), coset_set(group, (group[0], ()))))


if __name__ == "__main__":
    unittest.main()
