"""Every example of the document's interface, module by module."""

import unittest

import examples

TEXTS = {
    "perms": (
        '''
>>> from stronggens.perms import commutator, conjugate, identity, inverse, power, product
>>> p = (1, 2, 0, 3)
>>> q = (0, 1, 3, 2)
>>> [product(p, q), product(q, p), inverse(p), power(p, -2), conjugate(p, q), commutator(p, q), identity(2)]
[(1, 3, 0, 2), (1, 2, 3, 0), (2, 0, 1, 3), (1, 2, 0, 3), (1, 3, 2, 0), (2, 1, 3, 0), (0, 1)]
''',
        '''
>>> from stronggens.perms import cycle_lengths, cycles, element_order, sign, support
>>> p = (3, 1, 4, 0, 5, 2)
>>> [cycles(p), cycle_lengths(p), element_order(p), sign(p), support(p)]
[((0, 3), (2, 4, 5)), (1, 2, 3), 6, -1, (0, 2, 3, 4, 5)]
''',
    ),
    "cycletext": (
        '''
>>> from stronggens.cycletext import read, write
>>> [write((3, 1, 4, 0, 5, 2)), write((0, 1)), read(5, " (4 1)( 2)()"), read(3, "(2 0 1)")]
['(0 3)(2 4 5)', '()', (0, 4, 2, 3, 1), (1, 2, 0)]
''',
        '''
>>> from stronggens.cycletext import read
>>> read(4, "(0 1)(2 01)")
raises InvalidText(8)
''',
    ),
    "roots": (
        '''
>>> from stronggens.perms import conjugate
>>> from stronggens.roots import centralizer_size, conjugator
>>> p = (1, 0, 3, 4, 2)
>>> q = (2, 4, 0, 1, 3)
>>> [conjugate(p, conjugator(p, q)) == q, conjugator(p, (1, 0, 2, 3, 4)), centralizer_size(p), centralizer_size((0, 1, 2, 3))]
[True, None, 6, 24]
''',
        '''
>>> from stronggens.perms import power
>>> from stronggens.roots import root, root_obstacle
>>> pairs = (1, 0, 3, 2)
>>> [power(root(pairs, 2), 2) == pairs, root((1, 0, 2, 3), 2), root_obstacle((1, 0, 2, 3), 2), root_obstacle(pairs, 12), root_obstacle(pairs, 10)]
[True, None, (2, 1, 2), (2, 2, 4), None]
''',
    ),
    "programs": (
        '''
>>> from stronggens.programs import expand, run_program, word_value
>>> group = (4, ((1, 2, 3, 0), (1, 0, 2, 3)))
>>> program = (("gen", 0), ("gen", 1), ("mul", 0, 1), ("inv", 2), ("mul", 3, 0))
>>> [expand(group, program), word_value(group, (-2, -1, 1)), run_program(group, program), run_program(group, ())]
[(-2, -1, 1), (1, 0, 2, 3), (1, 0, 2, 3), (0, 1, 2, 3)]
''',
    ),
    "orbits": (
        '''
>>> from stronggens.orbits import orbit, orbits, path, transitivity, tuple_path
>>> square = (4, ((1, 2, 3, 0), (0, 3, 2, 1)))
>>> parts = (5, ((1, 0, 2, 3, 4), (0, 1, 3, 4, 2)))
>>> [orbit(square, 2), orbits(parts), path(square, 0, 2), path(square, 1, 3), path(parts, 0, 2), tuple_path(square, (0, 1), (1, 0)), transitivity(square)]
[(0, 1, 2, 3), [(0, 1), (2, 3, 4)], (1, 1), (2,), None, (-1, 2), 1]
''',
        '''
>>> from stronggens.orbits import mirror, pair_orbits, rank, self_paired, suborbits
>>> ring = (4, ((1, 2, 3, 0),))
>>> square = (4, ((1, 2, 3, 0), (0, 3, 2, 1)))
>>> [rank(ring), pair_orbits(ring)[1], mirror(ring, 1), self_paired(ring), rank(square), suborbits(square, 0)]
[4, ((0, 1), (1, 2), (2, 3), (3, 0)), 3, 2, 3, [(0,), (1, 3), (2,)]]
''',
    ),
    "blocks": (
        '''
>>> from stronggens.blocks import block_systems, common, finest, is_invariant, joined
>>> square = (4, ((1, 2, 3, 0), (0, 3, 2, 1)))
>>> [is_invariant(square, ((0, 2), (1, 3))), finest(square, (0, 2)), finest(square, (0, 1)), joined(((0,), (1,), (2, 3)), ((0, 1), (2,), (3,))), common(((0, 1, 2), (3,)), ((0,), (1, 2, 3))), block_systems(square)]
[True, ((0, 2), (1, 3)), ((0, 1, 2, 3),), ((0, 1), (2, 3)), ((0,), (1, 2), (3,)), [((0,), (1,), (2,), (3,)), ((0, 2), (1, 3)), ((0, 1, 2, 3),)]]
''',
        '''
>>> from stronggens.blocks import above_stabilizer, is_primitive, on_blocks, primitivity, shows_primitivity
>>> square = (4, ((1, 2, 3, 0), (0, 3, 2, 1)))
>>> [is_primitive(square), primitivity(square), shows_primitivity(square, ("orbit", (0, 1))), on_blocks(square, ((0, 2), (1, 3))), above_stabilizer(square, 0)[1]]
[False, ('blocks', ((0, 2), (1, 3))), False, (2, ((1, 0), (0, 1))), ((0, 1, 2, 3), (0, 3, 2, 1), (2, 1, 0, 3), (2, 3, 0, 1))]
''',
        '''
>>> from stronggens.blocks import shows_primitivity
>>> swaps = (3, ((1, 2, 0), (1, 0, 2)))
>>> [shows_primitivity(swaps, ("walks", ((0, 1, 2),))), shows_primitivity(swaps, ("walks", ((0, 1),))), shows_primitivity((1, ()), ("point",))]
[True, False, True]
''',
    ),
    "fixed": (
        '''
>>> from stronggens.fixed import colorings, colorings_with, cycle_index, least_coloring, patterns
>>> square = (4, ((1, 2, 3, 0), (0, 3, 2, 1)))
>>> [colorings(square, 2), colorings_with(square, (2, 2)), patterns(square, 2), cycle_index(square), least_coloring(square, (1, 0, 0, 0))]
[6, 2, 4, [((1, 1, 1, 1), 1), ((1, 1, 2), 2), ((2, 2), 3), ((4,), 2)], (0, 0, 0, 1)]
''',
        '''
>>> from stronggens.fixed import carriers, frobenius_kernel, regular_normal, unfixed_count
>>> square = (4, ((1, 2, 3, 0), (0, 3, 2, 1)))
>>> turns = ((0, 1, 2, 3), (1, 2, 3, 0), (2, 3, 0, 1), (3, 0, 1, 2))
>>> [unfixed_count(square), frobenius_kernel(square), frobenius_kernel((3, ((1, 2, 0), (1, 0, 2)))), regular_normal(square)[1] == turns, carriers(square, turns, 1)]
[5, None, ((0, 1, 2), (1, 2, 0), (2, 0, 1)), True, ((3, 0, 1, 2), (0, 1, 2, 3), (1, 2, 3, 0), (2, 3, 0, 1))]
''',
        '''
>>> from stronggens.fixed import carriers
>>> carriers((2, ((1, 0),)), ((0, 1),), 0)
raises NotRegular
''',
    ),
    "words": (
        '''
>>> from stronggens.words import conjugate_words, cyclically_reduced, read_word, reduced, word_root, write_word
>>> [reduced(2, (1, 2, -2, -1, 2)), cyclically_reduced(2, (1, 2, -1)), word_root(2, (1, 2, 1, 2)), conjugate_words(2, (1,), (2,))]
[(2,), ((1,), (2,)), ((1, 2), 2), None]
>>> [write_word(3, (1, -2, 3)), read_word(2, "(ab)2A-1"), read_word(2, "a0"), read_word(2, "aA")]
['aBc', (1, 2, 1, 2, 1), (), (1, -1)]
>>> read_word(2, "a(")
raises InvalidText(place=2)
''',
    ),
    "presentations": (
        '''
>>> from stronggens.presentations import with_generator, without_generator
>>> [with_generator((1, ((1, 1, 1),)), (1, 1)), without_generator((2, ((1, 1, 1), (1, 1, -2))), 2), without_generator((2, ((1, 1, 1), (1, 1, -2))), 1)]
[(2, ((1, 1, 1), (1, 1, -2))), (1, ((1, 1, 1),)), None]
''',
    ),
    "cosets": (
        '''
>>> from stronggens.cosets import coset_table, definitions
>>> told = (2, ((1, 1, 1), (2, 2), (1, 2, 1, 2)))
>>> [coset_table(told, ((2,),), "scans"), coset_table(told, ((2,),), "rows"), definitions(told, ((2,),), "scans")]
[((1, 2, 0, 0), (2, 0, 2, 2), (0, 1, 1, 1)), ((1, 2, 0, 0), (2, 0, 2, 2), (0, 1, 1, 1)), ((0, 1), (0, -1))]
>>> coset_table((1, ()), (), "rows")
raises TooMany(most=600)
''',
    ),
    "tables": (
        '''
>>> from stronggens.tables import follows, standard, table_flaw, table_map
>>> [table_flaw((1, ((1, 1),)), (), ((1, 2), (2, 0), (0, 1))), table_flaw((1, ()), (), ((1, 2), (2, 0), (0, 1))), standard(((2, 1), (0, 2), (1, 0)))]
[('relator', 0, 0), None, ((1, 2), (2, 0), (0, 1))]
>>> [table_map(((1, 2), (3, 0), (0, 3), (2, 1)), ((1, 1), (0, 0))), follows((1, ((1, 1),)), (1, 1, 1, 1)), follows((1, ((1, 1),)), (1,))]
[(0, 1, 1, 0), True, False]
''',
    ),
    "schreier": (
        '''
>>> from stronggens.schreier import free_generators, hall_numbers, low_index, presents, rewritten, row_words, subgroup_presentation
>>> [presents((3, ((1, 0, 2),)), (1, ((1, 1),))), presents((3, ((1, 0, 2),)), (1, ((1, 1, 1, 1),))), row_words(((1, 2), (2, 0), (0, 1)))]
[True, False, ((), (1,), (-1,))]
>>> [free_generators(((1, 1), (0, 0))), rewritten(((1, 1), (0, 0)), (1, 1, 1, 1)), rewritten(((1, 1), (0, 0)), (1,)), subgroup_presentation((1, ((1, 1, 1, 1),)), ((1, 1),))]
[[(1, 1)], (1, 1), None, (1, ((1, 1),))]
>>> [low_index((1, ()), 2), len(low_index((2, ()), 2)), hall_numbers(2, 4)]
[[((0, 0),), ((1, 1), (0, 0))], 4, (1, 3, 13, 71)]
''',
    ),
    "folding": (
        '''
>>> from stronggens.folding import folded, free_index, free_meet, free_program, free_rank, separated, shows_separated
>>> [folded(2, ((1, 2),)), free_rank(2, ((1, 2),)), free_index(2, ((1, 2),)), free_index(1, ((1, 1),))]
[((1, None, None, 1), (None, 0, 0, None)), 1, None, 2]
>>> [free_meet(1, ((1, 1),), ((1, 1, 1),)), free_program(2, ((1,),), (2,)), free_program(2, ((1,),), (2, -2))]
[((1, 2), (3, 0), (0, 4), (5, 1), (2, 5), (4, 3)), None, ()]
>>> [separated(1, ((1, 1),), (1, 1)), shows_separated(1, ((1, 1),), (1,), ((1, 0),)), shows_separated(1, ((1, 1),), (1,), ((1, 2, 0),))]
[None, True, False]
''',
    ),
    "subgroups": (
        '''
>>> from stronggens.subgroups import frattini, is_non_generator, maximal_subgroups, normal_subgroups, subgroups
>>> three = (3, ((1, 2, 0), (1, 0, 2)))
>>> ring = (4, ((1, 2, 3, 0),))
>>> [len(subgroups(three)), subgroups(three)[1:3], len(normal_subgroups(three)), len(maximal_subgroups(three)), frattini(ring), is_non_generator(ring, (2, 3, 0, 1)), is_non_generator(ring, (1, 2, 3, 0))]
[6, [((0, 1, 2), (0, 2, 1)), ((0, 1, 2), (1, 0, 2))], 3, 4, ((0, 1, 2, 3), (2, 3, 0, 1)), True, False]
''',
    ),
    "series": (
        '''
>>> from stronggens.series import composition, factor_orders, is_product_group, product_set, shows_composition, split
>>> three = (3, ((1, 2, 0), (1, 0, 2)))
>>> one = (3, ((1, 0, 2),))
>>> other = (3, ((0, 2, 1),))
>>> [product_set(three, one, other), is_product_group(three, one, other), split(three, one, other, (2, 0, 1)), split(three, one, other, (1, 2, 0)), composition(three)[1], factor_orders(three), shows_composition(three, composition(three)[1:])]
[((0, 1, 2), (0, 2, 1), (1, 0, 2), (2, 0, 1)), False, ((1, 0, 2), (0, 2, 1)), None, ((0, 1, 2), (1, 2, 0), (2, 0, 1)), (2, 3), False]
''',
    ),
    "primes": (
        '''
>>> from stronggens.primes import prime_part, rings, roots_of_one, sylow_count, sylows
>>> three = (3, ((1, 2, 0), (1, 0, 2)))
>>> [prime_part(three, 2), prime_part(three, 5), sylow_count(three, 2), sylows(three, 2)[1], roots_of_one(three, 2), roots_of_one(three, 6 ** 50), rings(three, 2), rings(three, 3)]
[2, 1, 3, ((0, 1, 2), (1, 0, 2)), 4, 6, (4, 1), (3, 11)]
''',
        '''
>>> from stronggens.primes import sylow
>>> sylow((3, ()), 4)
raises BadPrime
''',
    ),
    "hall": (
        '''
>>> from stronggens.hall import core_p, derived_series, hall, hall_gap, is_nilpotent, is_solvable, lower_central, upper_central
>>> three = (3, ((1, 2, 0), (1, 0, 2)))
>>> five = (5, ((1, 2, 3, 4, 0), (1, 2, 0, 3, 4)))
>>> [is_solvable(three), is_solvable(five), hall_gap(three), hall_gap(five), hall(five, (2, 5)), derived_series(three)[1:], len(lower_central(three)), upper_central(three), is_nilpotent(three), core_p(three, 2)]
[True, False, None, (2, 5), None, [((0, 1, 2), (1, 2, 0), (2, 0, 1)), ((0, 1, 2),)], 2, [((0, 1, 2),)], False, ((0, 1, 2),)]
''',
    ),
    "transfers": (
        '''
>>> from stronggens.transfers import is_central, normal_complement, obstacle, shows_obstacle, transfer
>>> three = (3, ((1, 2, 0), (1, 0, 2)))
>>> turns = ((0, 1, 2), (1, 2, 0), (2, 0, 1))
>>> [normal_complement(three, 2), normal_complement(three, 3), is_central(three, 2), is_central(three, 3), obstacle(three, 2), shows_obstacle(three, 3, (turns, (1, 0, 2))), shows_obstacle(three, 3, (turns, (1, 2, 0))), transfer(three, (3, ((1, 0, 2),)), (1, 0, 2))]
[((0, 1, 2), (1, 2, 0), (2, 0, 1)), None, True, False, None, True, False, (1, 0, 2)]
''',
    ),
    "homs": (
        '''
>>> from stronggens.homs import above_kernel, carried, extends, map_gap, preimage, quotient, shows_not
>>> three, flip = (3, ((1, 2, 0), (1, 0, 2))), (2, ((1, 0),))
>>> [extends(three, flip, ((0, 1), (1, 0))), extends(three, flip, ((1, 0), (1, 0))), map_gap(three, flip, ((0, 1), (1, 0)))]
[True, False, None]
>>> [shows_not(three, flip, ((1, 0), (1, 0)), (("gen", 0), ("mul", 0, 0), ("mul", 1, 0))), carried(three, flip, ((0, 1), (1, 0)), (0, 2, 1)), preimage(three, flip, ((0, 1), (1, 0)), (0, 1))]
[True, (1, 0), ((0, 1, 2), (1, 2, 0), (2, 0, 1))]
>>> [quotient(three, (3, ((1, 2, 0),))), len(above_kernel(three, flip, ((0, 1), (1, 0))))]
[(2, ((0, 1), (1, 0))), 2]
''',
    ),
    "automorphisms": (
        '''
>>> from stronggens.automorphisms import automorphisms, difference, inner_automorphisms, shows_isomorphism
>>> ring, four = (4, ((1, 2, 3, 0),)), (4, ((1, 0, 3, 2), (2, 3, 0, 1)))
>>> [difference(ring, four), difference(ring, (3, ())), automorphisms(ring), len(automorphisms(four)), inner_automorphisms(ring)]
[('elements', 2, 1, 3), ('order', 4, 1), [((1, 2, 3, 0),), ((3, 0, 1, 2),)], 6, [((1, 2, 3, 0),)]]
>>> [shows_isomorphism(ring, ring, ((3, 0, 1, 2),)), shows_isomorphism(ring, ring, ((2, 3, 0, 1),))]
[True, False]
''',
    ),
    "products": (
        '''
>>> from stronggens.products import direct_product, goursat, matched_count, matched_subgroups, sections
>>> flip = (2, ((1, 0),))
>>> [direct_product(flip, flip), len(sections(flip)), matched_count(flip, flip), matched_subgroups(flip, flip)[:2]]
[(4, ((1, 0, 2, 3), (0, 1, 3, 2))), 3, 5, [((0, 1, 2, 3),), ((0, 1, 2, 3), (0, 1, 3, 2))]]
>>> goursat(flip, flip, (4, ((1, 0, 3, 2),)))
(((0, 1), (1, 0)), ((0, 1),), ((0, 1), (1, 0)), ((0, 1),))
''',
    ),
    "solutions": (
        '''
>>> from stronggens.solutions import count_images, count_onto, list_images
>>> three = (3, ((1, 2, 0), (1, 0, 2)))
>>> [count_images((1, ((1, 1),)), three), count_images((2, ((1, 2, -1, -2),)), three), count_onto((2, ()), three), list_images((1, ((1, 1, 1),)), three)]
[4, 18, 18, [((0, 1, 2),), ((1, 2, 0),), ((2, 0, 1),)]]
''',
    ),
    "complements": (
        '''
>>> from stronggens.complements import complement_of, complements, crossed_maps
>>> three, normal, flip = (3, ((1, 2, 0), (1, 0, 2))), (3, ((1, 2, 0),)), (3, ((1, 0, 2),))
>>> [complements(three, normal), crossed_maps(three, normal, flip), complement_of(three, normal, flip, ((0, 1, 2), (1, 2, 0)))]
[[((0, 1, 2), (0, 2, 1)), ((0, 1, 2), (1, 0, 2)), ((0, 1, 2), (2, 1, 0))], [((0, 1, 2), (0, 1, 2)), ((0, 1, 2), (1, 2, 0)), ((0, 1, 2), (2, 0, 1))], ((0, 1, 2), (2, 1, 0))]
''',
    ),
    "classes": (
        '''
>>> from stronggens.classes import class_constants, class_of, classes, commuting_pairs
>>> group = (3, ((1, 2, 0), (1, 0, 2)))
>>> [classes(group), commuting_pairs(group), class_of(group, (2, 0, 1)), class_constants(group)[1]]
[[((0, 1, 2),), ((0, 2, 1), (1, 0, 2), (2, 1, 0)), ((1, 2, 0), (2, 0, 1))], 18, ((1, 2, 0), (2, 0, 1)), ((0, 1, 0), (3, 0, 3), (0, 2, 0))]
''',
    ),
    "marks": (
        '''
>>> from stronggens.marks import marks, row_flaw, subgroup_classes, virtual_parts
>>> pair = (2, ((1, 0),))
>>> group = (3, ((1, 2, 0), (1, 0, 2)))
>>> [subgroup_classes(pair), marks(group), virtual_parts(group, (5, -1, 2, 0)), row_flaw(group, (5, -1, 2, 0)), virtual_parts(group, (4, 1, 3, 1)), row_flaw(group, (4, 1, 3, 1))]
[[(((0, 1),),), (((0, 1), (1, 0)),)], ((6, 0, 0, 0), (3, 1, 0, 0), (2, 0, 2, 0), (1, 1, 1, 1)), (1, -1, 1, 0), None, None, (0, 13, 6)]
''',
        '''
>>> from stronggens.marks import gset_of, parts_of, row_of
>>> group = (2, ((1, 0),))
>>> [row_of(group, ((0, 2, 1),)), parts_of(group, ((0, 2, 1),)), gset_of(group, (1, 2))]
[(3, 1), (1, 1), ((1, 0, 2, 3),)]
''',
    ),
    "gsets": (
        '''
>>> from stronggens.gsets import coset_set, fixed_points, is_gset, stabilizer_of
>>> group = (2, ((1, 0),))
>>> gset = ((0, 2, 1),)
>>> [is_gset(group, gset), is_gset(group, ((1, 2, 0),)), coset_set(group, (2, ())), fixed_points(group, gset, group), stabilizer_of(group, gset, 1)]
[True, False, ((1, 0),), (0,), ((0, 1),)]
''',
        '''
>>> from stronggens.gsets import gset_difference, same_characters, same_gsets
>>> group = (2, ((1, 0),))
>>> gset = ((0, 2, 1),)
>>> [same_gsets(group, gset, ((1, 0, 2),)) in [(2, 0, 1), (2, 1, 0)], gset_difference(group, gset, ((0, 1, 2),)), same_characters(group, gset, ((0, 1, 2),))]
[True, (((0, 1), (1, 0)), 1, 3), False]
''',
    ),
    "gmaps": (
        '''
>>> from stronggens.gmaps import gset_product, induced, map_count, maps_of, restricted
>>> pair = (2, ((1, 0),))
>>> group = (3, ((1, 2, 0), (1, 0, 2)))
>>> [gset_product(pair, ((1, 0),), ((0, 2, 1),)), map_count(pair, ((1, 0),), ((0, 2, 1),)), maps_of(pair, ((1, 0),), ((0, 2, 1),)), restricted(group, group[1], (3, ((0, 2, 1),))), induced(group, (3, ((1, 0, 2),)), ((1, 0),))]
[((3, 5, 4, 0, 2, 1),), 3, [(0, 0), (1, 2), (2, 1)], ((0, 2, 1),), ((4, 5, 1, 0, 3, 2), (1, 0, 4, 5, 2, 3))]
''',
    ),
    "moebius": (
        '''
>>> from stronggens.moebius import generating_tuples, moebius
>>> group = (3, ((1, 2, 0), (1, 0, 2)))
>>> [moebius(group)[0], moebius(group)[4], generating_tuples(group, 2), generating_tuples(group, 1)]
[(((0, 1, 2),), 3), (((0, 1, 2), (1, 2, 0), (2, 0, 1)), -1), 18, 0]
''',
    ),
    "sessions": (
        '''
>>> from stronggens.sessions import Session
>>> session = Session()
>>> told = session.run("let g 4 (0 1 2 3), (0 1)\\nfix g 0 h\\n\\norder h")
>>> [told, session.names(), session.trial("orbit h 1"), session.undo(), session.names()]
[[None, 6, 6], ('g', 'h'), [(1, 2, 3)], True, ()]
''',
        '''
>>> from stronggens.sessions import Session
>>> session = Session()
>>> session.run("let g 3 (0 1)\\n\\norder h")
raises InvalidCommand(3, 7)
''',
    ),
}


class TestExamples(unittest.TestCase):
    def test_examples(self):
        for name, texts in TEXTS.items():
            for text in texts:
                with self.subTest(name):
                    examples.run(self, text)


if __name__ == "__main__":
    unittest.main()
