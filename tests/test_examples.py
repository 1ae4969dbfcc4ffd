"""Every example of the document's interface, module by module."""

import unittest

import examples

TEXTS = {
    "perms": (
        '''
>>> from stronggens.perms import commutator, conjugate, identity, inverse, power, product
>>> p = (1, 2, 0, 3)
>>> q = (0, 1, 3, 2)
>>> [product(p, q), product(q, p), inverse(p), power(p, -2), conjugate(p, q), commutator(p, q), identity(2)]
[(1, 3, 0, 2), (1, 2, 3, 0), (2, 0, 1, 3), (1, 2, 0, 3), (1, 3, 2, 0), (2, 1, 3, 0), (0, 1)]
''',
        '''
>>> from stronggens.perms import cycle_lengths, cycles, element_order, sign, support
>>> p = (3, 1, 4, 0, 5, 2)
>>> [cycles(p), cycle_lengths(p), element_order(p), sign(p), support(p)]
[((0, 3), (2, 4, 5)), (1, 2, 3), 6, -1, (0, 2, 3, 4, 5)]
''',
    ),
    "cycletext": (
        '''
>>> from stronggens.cycletext import read, write
>>> [write((3, 1, 4, 0, 5, 2)), write((0, 1)), read(5, " (4 1)( 2)()"), read(3, "(2 0 1)")]
['(0 3)(2 4 5)', '()', (0, 4, 2, 3, 1), (1, 2, 0)]
''',
        '''
>>> from stronggens.cycletext import read
>>> read(4, "(0 1)(2 01)")
raises InvalidText(8)
''',
    ),
    "roots": (
        '''
>>> from stronggens.perms import conjugate
>>> from stronggens.roots import centralizer_size, conjugator
>>> p = (1, 0, 3, 4, 2)
>>> q = (2, 4, 0, 1, 3)
>>> [conjugate(p, conjugator(p, q)) == q, conjugator(p, (1, 0, 2, 3, 4)), centralizer_size(p), centralizer_size((0, 1, 2, 3))]
[True, None, 6, 24]
''',
        '''
>>> from stronggens.perms import power
>>> from stronggens.roots import root, root_obstacle
>>> pairs = (1, 0, 3, 2)
>>> [power(root(pairs, 2), 2) == pairs, root((1, 0, 2, 3), 2), root_obstacle((1, 0, 2, 3), 2), root_obstacle(pairs, 12), root_obstacle(pairs, 10)]
[True, None, (2, 1, 2), (2, 2, 4), None]
''',
    ),
    "programs": (
        '''
>>> from stronggens.programs import expand, run_program, word_value
>>> group = (4, ((1, 2, 3, 0), (1, 0, 2, 3)))
>>> program = (("gen", 0), ("gen", 1), ("mul", 0, 1), ("inv", 2), ("mul", 3, 0))
>>> [expand(group, program), word_value(group, (-2, -1, 1)), run_program(group, program), run_program(group, ())]
[(-2, -1, 1), (1, 0, 2, 3), (1, 0, 2, 3), (0, 1, 2, 3)]
''',
    ),
    "orbits": (
        '''
>>> from stronggens.orbits import orbit, orbits, path, transitivity, tuple_path
>>> square = (4, ((1, 2, 3, 0), (0, 3, 2, 1)))
>>> parts = (5, ((1, 0, 2, 3, 4), (0, 1, 3, 4, 2)))
>>> [orbit(square, 2), orbits(parts), path(square, 0, 2), path(square, 1, 3), path(parts, 0, 2), tuple_path(square, (0, 1), (1, 0)), transitivity(square)]
[(0, 1, 2, 3), [(0, 1), (2, 3, 4)], (1, 1), (2,), None, (-1, 2), 1]
''',
        '''
>>> from stronggens.orbits import mirror, pair_orbits, rank, self_paired, suborbits
>>> ring = (4, ((1, 2, 3, 0),))
>>> square = (4, ((1, 2, 3, 0), (0, 3, 2, 1)))
>>> [rank(ring), pair_orbits(ring)[1], mirror(ring, 1), self_paired(ring), rank(square), suborbits(square, 0)]
[4, ((0, 1), (1, 2), (2, 3), (3, 0)), 3, 2, 3, [(0,), (1, 3), (2,)]]
''',
    ),
    "blocks": (
        '''
>>> from stronggens.blocks import block_systems, common, finest, is_invariant, joined
>>> square = (4, ((1, 2, 3, 0), (0, 3, 2, 1)))
>>> [is_invariant(square, ((0, 2), (1, 3))), finest(square, (0, 2)), finest(square, (0, 1)), joined(((0,), (1,), (2, 3)), ((0, 1), (2,), (3,))), common(((0, 1, 2), (3,)), ((0,), (1, 2, 3))), block_systems(square)]
[True, ((0, 2), (1, 3)), ((0, 1, 2, 3),), ((0, 1), (2, 3)), ((0,), (1, 2), (3,)), [((0,), (1,), (2,), (3,)), ((0, 2), (1, 3)), ((0, 1, 2, 3),)]]
''',
        '''
>>> from stronggens.blocks import above_stabilizer, is_primitive, on_blocks, primitivity, shows_primitivity
>>> square = (4, ((1, 2, 3, 0), (0, 3, 2, 1)))
>>> [is_primitive(square), primitivity(square), shows_primitivity(square, ("orbit", (0, 1))), on_blocks(square, ((0, 2), (1, 3))), above_stabilizer(square, 0)[1]]
[False, ('blocks', ((0, 2), (1, 3))), False, (2, ((1, 0), (0, 1))), ((0, 1, 2, 3), (0, 3, 2, 1), (2, 1, 0, 3), (2, 3, 0, 1))]
''',
        '''
>>> from stronggens.blocks import shows_primitivity
>>> swaps = (3, ((1, 2, 0), (1, 0, 2)))
>>> [shows_primitivity(swaps, ("walks", ((0, 1, 2),))), shows_primitivity(swaps, ("walks", ((0, 1),))), shows_primitivity((1, ()), ("point",))]
[True, False, True]
''',
    ),
    "fixed": (
        '''
>>> from stronggens.fixed import colorings, colorings_with, cycle_index, least_coloring, patterns
>>> square = (4, ((1, 2, 3, 0), (0, 3, 2, 1)))
>>> [colorings(square, 2), colorings_with(square, (2, 2)), patterns(square, 2), cycle_index(square), least_coloring(square, (1, 0, 0, 0))]
[6, 2, 4, [((1, 1, 1, 1), 1), ((1, 1, 2), 2), ((2, 2), 3), ((4,), 2)], (0, 0, 0, 1)]
''',
        '''
>>> from stronggens.fixed import carriers, frobenius_kernel, regular_normal, unfixed_count
>>> square = (4, ((1, 2, 3, 0), (0, 3, 2, 1)))
>>> turns = ((0, 1, 2, 3), (1, 2, 3, 0), (2, 3, 0, 1), (3, 0, 1, 2))
>>> [unfixed_count(square), frobenius_kernel(square), frobenius_kernel((3, ((1, 2, 0), (1, 0, 2)))), regular_normal(square)[1] == turns, carriers(square, turns, 1)]
[5, None, ((0, 1, 2), (1, 2, 0), (2, 0, 1)), True, ((3, 0, 1, 2), (0, 1, 2, 3), (1, 2, 3, 0), (2, 3, 0, 1))]
''',
        '''
>>> from stronggens.fixed import carriers
>>> carriers((2, ((1, 0),)), ((0, 1),), 0)
raises NotRegular
''',
    ),
    "words": (
        '''
>>> from stronggens.words import conjugate_words, cyclically_reduced, read_word, reduced, word_root, write_word
>>> [reduced(2, (1, 2, -2, -1, 2)), cyclically_reduced(2, (1, 2, -1)), word_root(2, (1, 2, 1, 2)), conjugate_words(2, (1,), (2,))]
[(2,), ((1,), (2,)), ((1, 2), 2), None]
>>> [write_word(3, (1, -2, 3)), read_word(2, "(ab)2A-1"), read_word(2, "a0"), read_word(2, "aA")]
['aBc', (1, 2, 1, 2, 1), (), (1, -1)]
>>> read_word(2, "a(")
raises InvalidText(place=2)
''',
    ),
}


class TestExamples(unittest.TestCase):
    def test_examples(self):
        for name, texts in TEXTS.items():
            for text in texts:
                with self.subTest(name):
                    examples.run(self, text)


if __name__ == "__main__":
    unittest.main()
