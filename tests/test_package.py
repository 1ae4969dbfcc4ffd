"""What holds of the whole package: names and arguments, arguments left alone, new lists, and no state."""

import importlib
import inspect
import unittest

from brute import SQUARE, expect, ring
from stronggens.errors import BadDegree, BadGroup, BadNumber, BadPermutation, BadPoint, GroupError

INTERFACE = {
    "perms": """identity(degree) product(p,q) inverse(p) power(p,exponent) conjugate(p,g) commutator(p,q) cycles(p)
        cycle_lengths(p) support(p) element_order(p) sign(p)""",
    "cycletext": "write(p) read(degree,text)",
    "roots": "conjugator(p,q) centralizer_size(p) root(p,exponent) root_obstacle(p,exponent)",
    "programs": "word_value(group,word) run_program(group,program) expand(group,program)",
    "orbits": """orbit(group,point) orbits(group) is_transitive(group) path(group,one,other)
        tuple_path(group,one,other) transitivity(group) point_stabilizer(group,point) suborbits(group,point)
        pair_orbits(group) rank(group) mirror(group,number) self_paired(group)""",
    "blocks": """is_invariant(group,partition) finest(group,points) joined(one,other) common(one,other)
        block_systems(group) is_primitive(group) primitivity(group) shows_primitivity(group,value)
        block_group(group,partition,number) on_blocks(group,partition) kernel_on_blocks(group,partition)
        above_stabilizer(group,point)""",
    "fixed": """colorings(group,colors) colorings_with(group,counts) patterns(group,colors) cycle_index(group)
        least_coloring(group,coloring) unfixed_count(group) unfixed(group) frobenius_kernel(group)
        regular_normal(group) carriers(group,rows,point)""",
    "chains": """base_points(group,*,prefix=()) orbit_sizes(group,*,prefix=()) order(group) chain(group,*,prefix=())
        shows_chain(group,value) chain_gap(group,value) base_swap(group,value,level)""",
    "sifting": "contains(group,p) membership(group,p) outsider(group,p) shows_outsider(group,p,value)",
    "transversals": """transversal(group,point) shows_transversal(group,point,value)
        schreier_generators(group,point,pairs)""",
    "generators": """extra_generator(group,other) inclusion(group,other) same(group,other) irredundant(group)
        edges(group) has_few(group) with_few(group)""",
    "listing": """all_elements(group) element(group,place) rank_of(group,p) count_below(group,p) next_element(group,p)
        least_in_coset(group,p,*,left=False) same_coset(group,p,q,*,left=False)""",
    "words": """reduced(many,word) cyclically_reduced(many,word) conjugate_words(many,one,other) word_root(many,word)
        write_word(many,word) read_word(many,text)""",
    "presentations": "with_generator(presentation,word) without_generator(presentation,letter)",
    "cosets": "coset_table(presentation,words,method) definitions(presentation,words,method)",
    "tables": """table_flaw(presentation,words,value) standard(table) table_map(one,other)
        follows(presentation,word)""",
    "schreier": """presentation_of(group) presents(group,value) row_words(table) free_generators(table)
        rewritten(table,word) subgroup_presentation(presentation,words) low_index(presentation,most)
        hall_numbers(many,most)""",
    "folding": """folded(many,words) free_rank(many,words) free_index(many,words) free_program(many,words,word)
        free_meet(many,one,other) separated(many,words,word) shows_separated(many,words,word,value)""",
    "subgroups": """subgroups(group) normal_subgroups(group) maximal_subgroups(group) frattini(group)
        is_non_generator(group,p)""",
    "series": """product_set(group,one,other) is_product_group(group,one,other) split(group,one,other,p)
        composition(group) composition_through(group,normal) shows_composition(group,value) factor_orders(group)""",
    "primes": """prime_part(group,prime) sylow_count(group,prime) sylow(group,prime) sylows(group,prime)
        conjugate_into(group,prime,part,whole) frattini_split(group,normal,prime,part,p) roots_of_one(group,exponent)
        rings(group,prime) element_of_prime(group,prime)""",
    "hall": """hall(group,primes) derived_series(group) is_solvable(group) hall_gap(group) core_p(group,prime)
        lower_central(group) upper_central(group) is_nilpotent(group)""",
    "transfers": """normal_complement(group,prime) is_central(group,prime) obstacle(group,prime)
        shows_obstacle(group,prime,value) transfer(group,part,p)""",
    "homs": """extends(source,target,images) shows_not(source,target,images,value) map_gap(source,target,images)
        carried(source,target,images,p) kernel(source,target,images) image_group(source,target,images)
        preimage(source,target,images,q) quotient(group,normal) above_kernel(source,target,images)""",
    "automorphisms": """isomorphism(one,other) shows_isomorphism(one,other,value) difference(one,other)
        automorphisms(group) inner_automorphisms(group)""",
    "products": """direct_product(one,other) goursat(one,other,part) sections(group) matched_subgroups(one,other)
        matched_count(one,other)""",
    "solutions": """count_images(presentation,group) count_onto(presentation,group)
        list_images(presentation,group)""",
    "complements": """complements(group,normal) crossed_maps(group,normal,complement)
        complement_of(group,normal,complement,value)""",
    "classes": "classes(group) class_of(group,p) commuting_pairs(group) class_constants(group)",
    "marks": """subgroup_classes(group) marks(group) row_of(group,gset) parts_of(group,gset) gset_of(group,parts)
        virtual_parts(group,row) row_flaw(group,row)""",
    "gsets": """is_gset(group,value) coset_set(group,subgroup) fixed_points(group,gset,subgroup)
        stabilizer_of(group,gset,point) same_gsets(group,one,other) gset_difference(group,one,other)
        same_characters(group,one,other)""",
    "gmaps": """gset_product(group,one,other) restricted(group,gset,subgroup) induced(group,subgroup,gset)
        map_count(group,one,other) maps_of(group,one,other)""",
    "moebius": "moebius(group) generating_tuples(group,many)",
    "pointsets": """set_stabilizer(group,points) least_image(group,points) set_mover(group,points,other)
        orbit_of_set(group,points) least_sets(group,size) set_counts(group)""",
    "backtrack": "meet(group,other) carry_tuple(group,points,images)",
    "conjugates": "conjugating(group,some,other) least_conjugate(group,some) commuting(group,some)",
    "doublecosets": "double_coset(left,right,p) double_path(left,right,p,q) double_cosets(group,left,right)",
    "graphs": "graph_group(graph) canonical_graph(graph) graph_map(graph,other)",
    "abelian": """diagonal(matrix) shows_diagonal(matrix,value) solve(matrix,target)
        shows_answer(matrix,target,value)""",
    "factors": """factors_of(group) basis_of(group) abelian_map(group,other) quotient_factors(group)
        presentation_factors(presentation) cyclic_images(presentation,many)""",
}

PAIRS = ((0, 2), (1, 3))
SQUARED = (("gen", 0), ("mul", 0, 0))
TURNS = ((0, 1, 2, 3), (1, 2, 3, 0), (2, 3, 0, 1), (3, 0, 1, 2))
RING = (4, (TURNS[1],))
CHAIN = ((0, RING[1], tuple(enumerate(TURNS))),)
LONGER = ((0, RING[1], tuple(enumerate(TURNS))), (2, (), ((2, TURNS[0]),)))
PRESENTED = (2, ((1, 1, 1, 1), (2, 2), (1, 2, 1, 2)))
TABLE = ((1, 2), (2, 0), (0, 1))
HALVES = ((0, 1, 2, 3), (2, 3, 0, 1))
FLIP = (2, ((1, 0),))
SIGNS = ((1, 0), (1, 0))
FOUR = (4, ((1, 0, 3, 2), (2, 3, 0, 1)))
SERIES = ((TURNS[0],), HALVES, TURNS)
ALTERNATING = (4, ((1, 2, 0, 3), (0, 2, 3, 1)))
MIRROR = (4, ((0, 3, 2, 1),))
MOVES = ((3, 0, 1, 2), (0, 3, 2, 1))
GRAPH = (4, ((0, 1), (1, 2), (2, 3)))
MATRIX = ((2, 4), (6, 8))
METHODS = {"run": ("text",), "trial": ("text",), "names": (), "group_of": ("name",), "load": ("groups",), "undo": ()}

# For each function some arguments of the right kinds.
CALLS = {
    "perms": {
        "identity": (4,), "product": ((1, 0, 2), (2, 0, 1)), "inverse": ((2, 0, 1),), "power": ((2, 0, 1), 2),
        "conjugate": ((1, 0, 2), (2, 0, 1)), "commutator": ((1, 0, 2), (2, 0, 1)), "cycles": ((1, 0, 2),),
        "cycle_lengths": ((1, 0, 2),), "support": ((1, 0, 2),), "element_order": ((1, 0, 2),), "sign": ((1, 0, 2),),
    },
    "cycletext": {"write": ((1, 0, 2),), "read": (3, "(0 1)")},
    "roots": {
        "conjugator": ((1, 0, 2), (0, 2, 1)), "centralizer_size": ((1, 0, 2),), "root": ((2, 0, 1), 2),
        "root_obstacle": ((1, 0, 2), 2),
    },
    "programs": {"word_value": (SQUARE, (1, -2)), "run_program": (SQUARE, SQUARED), "expand": (SQUARE, SQUARED)},
    "orbits": {
        "orbit": (SQUARE, 1), "orbits": (SQUARE,), "is_transitive": (SQUARE,), "path": (SQUARE, 0, 2),
        "tuple_path": (SQUARE, (0, 1), (2, 3)), "transitivity": (SQUARE,), "point_stabilizer": (SQUARE, 1),
        "suborbits": (SQUARE, 1), "pair_orbits": (SQUARE,), "rank": (SQUARE,), "mirror": (SQUARE, 1),
        "self_paired": (SQUARE,),
    },
    "blocks": {
        "is_invariant": (SQUARE, PAIRS), "finest": (SQUARE, (0, 2)), "joined": (PAIRS, PAIRS),
        "common": (PAIRS, PAIRS), "block_systems": (SQUARE,), "is_primitive": (SQUARE,), "primitivity": (SQUARE,),
        "shows_primitivity": (SQUARE, ("blocks", PAIRS)), "block_group": (SQUARE, PAIRS, 1),
        "on_blocks": (SQUARE, PAIRS), "kernel_on_blocks": (SQUARE, PAIRS), "above_stabilizer": (SQUARE, 1),
    },
    "fixed": {
        "colorings": (SQUARE, 2), "colorings_with": (SQUARE, (2, 2)), "patterns": (SQUARE, 2), "cycle_index": (SQUARE,),
        "least_coloring": (SQUARE, (1, 0, 0, 2)), "unfixed_count": (SQUARE,), "unfixed": (SQUARE,),
        "frobenius_kernel": (SQUARE,), "regular_normal": (SQUARE,), "carriers": (SQUARE, TURNS, 1),
    },
    "chains": {
        "base_points": (SQUARE,), "orbit_sizes": (SQUARE,), "order": (SQUARE,), "chain": (SQUARE,),
        "shows_chain": (RING, CHAIN), "chain_gap": (SQUARE, CHAIN), "base_swap": (RING, LONGER, 0),
    },
    "sifting": {
        "contains": (SQUARE, (1, 0, 2, 3)), "membership": (SQUARE, (1, 0, 3, 2)), "outsider": (SQUARE, (1, 0, 2, 3)),
        "shows_outsider": (SQUARE, (1, 0, 2, 3), ((), 1)),
    },
    "transversals": {
        "transversal": (RING, 0), "shows_transversal": (RING, 0, CHAIN[0][2]),
        "schreier_generators": (RING, 0, CHAIN[0][2]),
    },
    "generators": {
        "extra_generator": (RING, SQUARE), "inclusion": (SQUARE, RING), "same": (RING, SQUARE), "irredundant": (SQUARE,),
        "edges": (SQUARE,), "has_few": (SQUARE,), "with_few": (SQUARE,),
    },
    "listing": {
        "all_elements": (SQUARE,), "element": (SQUARE, 3), "rank_of": (SQUARE, (1, 0, 3, 2)),
        "count_below": (SQUARE, (1, 0, 2, 3)), "next_element": (SQUARE, (1, 0, 2, 3)),
        "least_in_coset": (SQUARE, (1, 0, 2, 3)), "same_coset": (SQUARE, (1, 0, 2, 3), (1, 0, 3, 2)),
    },
    "words": {
        "reduced": (2, (1, -1, 2)), "cyclically_reduced": (2, (1, 2, -1)), "conjugate_words": (2, (1, 2), (2, 1)),
        "word_root": (2, (1, 2, 1, 2)), "write_word": (2, (1, -2)), "read_word": (2, "(aB)2"),
    },
    "presentations": {"with_generator": (PRESENTED, (1, -2)), "without_generator": ((2, ((1, 1), (1, 1, -2))), 2)},
    "cosets": {"coset_table": (PRESENTED, ((2,),), "rows"), "definitions": (PRESENTED, ((2,),), "scans")},
    "tables": {
        "table_flaw": ((1, ((1, 1),)), ((1, 1),), TABLE), "standard": (TABLE,), "table_map": (TABLE, ((0, 0),)),
        "follows": (PRESENTED, (1, 2, -1, -2)),
    },
    "schreier": {
        "presentation_of": (SQUARE,), "presents": (SQUARE, PRESENTED), "row_words": (TABLE,), "free_generators": (TABLE,),
        "rewritten": (TABLE, (1, 1, 1)), "subgroup_presentation": (PRESENTED, ((1,),)), "low_index": (PRESENTED, 4),
        "hall_numbers": (2, 5),
    },
    "folding": {
        "folded": (2, ((1, 2), (2, 2))), "free_rank": (2, ((1, 2), (2, 2))), "free_index": (2, ((1, 2), (2, 2))),
        "free_program": (2, ((1, 2), (2, 2)), (1, -2)), "free_meet": (2, ((1, 2),), ((2, 1), (1,))),
        "separated": (2, ((1, 2),), (1,)), "shows_separated": (2, ((1, 2),), (1,), ((1, 0), (1, 0))),
    },
    "subgroups": {
        "subgroups": (SQUARE,), "normal_subgroups": (SQUARE,), "maximal_subgroups": (SQUARE,), "frattini": (SQUARE,),
        "is_non_generator": (SQUARE, (2, 3, 0, 1)),
    },
    "series": {
        "product_set": (SQUARE, RING, FOUR), "is_product_group": (SQUARE, RING, FOUR),
        "split": (SQUARE, RING, FOUR, (0, 3, 2, 1)), "composition": (RING,), "composition_through": (SQUARE, FOUR),
        "shows_composition": (RING, SERIES), "factor_orders": (RING,),
    },
    "primes": {
        "prime_part": (SQUARE, 2), "sylow_count": (ALTERNATING, 3), "sylow": (ALTERNATING, 2), "sylows": (ALTERNATING, 3),
        "conjugate_into": (ALTERNATING, 3, (4, ()), (4, ((1, 2, 0, 3),))),
        "frattini_split": (ALTERNATING, FOUR, 2, FOUR, (1, 2, 0, 3)), "roots_of_one": (SQUARE, 4), "rings": (SQUARE, 3),
        "element_of_prime": (ALTERNATING, 3),
    },
    "hall": {
        "hall": (ALTERNATING, (2, 5)), "derived_series": (SQUARE,), "is_solvable": (SQUARE,), "hall_gap": (SQUARE,),
        "core_p": (ALTERNATING, 2), "lower_central": (SQUARE,), "upper_central": (SQUARE,), "is_nilpotent": (SQUARE,),
    },
    "transfers": {
        "normal_complement": (ALTERNATING, 3), "is_central": (ALTERNATING, 3), "obstacle": (ALTERNATING, 2),
        "shows_obstacle": (ALTERNATING, 2, (((0, 1, 2, 3), (1, 0, 3, 2), (2, 3, 0, 1), (3, 2, 1, 0)), (1, 2, 0, 3))),
        "transfer": (SQUARE, RING, (0, 3, 2, 1)),
    },
    "homs": {
        "extends": (RING, FLIP, SIGNS[:1]), "shows_not": (RING, RING, RING[1], SQUARED), "map_gap": (SQUARE, SQUARE, SQUARE[1][::-1]),
        "carried": (SQUARE, FLIP, SIGNS, (0, 3, 2, 1)), "kernel": (SQUARE, FLIP, SIGNS), "image_group": (SQUARE, FLIP, SIGNS),
        "preimage": (SQUARE, FLIP, SIGNS, (1, 0)), "quotient": (SQUARE, FOUR), "above_kernel": (SQUARE, FLIP, SIGNS),
    },
    "automorphisms": {
        "isomorphism": (SQUARE, SQUARE), "shows_isomorphism": (SQUARE, SQUARE, SQUARE[1]), "difference": (RING, FOUR),
        "automorphisms": (SQUARE,), "inner_automorphisms": (SQUARE,),
    },
    "products": {
        "direct_product": (SQUARE, FLIP), "goursat": (FLIP, FLIP, (4, FOUR[1][:1])), "sections": (RING,),
        "matched_subgroups": (RING, FLIP), "matched_count": (RING, FLIP),
    },
    "solutions": {
        "count_images": (PRESENTED, SQUARE), "count_onto": (PRESENTED, SQUARE), "list_images": (PRESENTED, SQUARE),
    },
    "complements": {
        "complements": (SQUARE, RING), "crossed_maps": (SQUARE, RING, MIRROR),
        "complement_of": (SQUARE, RING, MIRROR, (TURNS[0], TURNS[2])),
    },
    "classes": {
        "classes": (SQUARE,), "class_of": (SQUARE, (0, 3, 2, 1)), "commuting_pairs": (SQUARE,), "class_constants": (SQUARE,),
    },
    "marks": {
        "subgroup_classes": (SQUARE,), "marks": (SQUARE,), "row_of": (SQUARE, MOVES), "parts_of": (SQUARE, MOVES),
        "gset_of": (FLIP, (2, 3)), "virtual_parts": (FLIP, (4, -2)), "row_flaw": (FLIP, (4, -1)),
    },
    "gsets": {
        "is_gset": (SQUARE, MOVES), "coset_set": (SQUARE, MIRROR), "fixed_points": (SQUARE, MOVES, MIRROR),
        "stabilizer_of": (SQUARE, MOVES, 2), "same_gsets": (SQUARE, MOVES, SQUARE[1]),
        "gset_difference": (SQUARE, MOVES, SIGNS), "same_characters": (SQUARE, MOVES, SQUARE[1]),
    },
    "gmaps": {
        "gset_product": (SQUARE, MOVES, SIGNS), "restricted": (SQUARE, MOVES, MIRROR), "induced": (SQUARE, MIRROR, FLIP[1]),
        "map_count": (SQUARE, MOVES, SIGNS), "maps_of": (SQUARE, MOVES, SQUARE[1]),
    },
    "moebius": {"moebius": (SQUARE,), "generating_tuples": (SQUARE, 3)},
    "pointsets": {
        "set_stabilizer": (SQUARE, (0, 2)), "least_image": (SQUARE, (1, 2)), "set_mover": (SQUARE, (0, 1), (2, 3)),
        "orbit_of_set": (SQUARE, (0, 2)), "least_sets": (SQUARE, 2), "set_counts": (SQUARE,),
    },
    "backtrack": {"meet": (SQUARE, RING), "carry_tuple": (SQUARE, (0, 1, 0), (2, 1, 2))},
    "conjugates": {
        "conjugating": (SQUARE, SQUARE[1], MOVES), "least_conjugate": (SQUARE, SQUARE[1]), "commuting": (SQUARE, MOVES),
    },
    "doublecosets": {
        "double_coset": (SQUARE, MIRROR, (1, 0, 2, 3)), "double_path": (SQUARE, RING, (1, 0, 2, 3), (0, 1, 3, 2)),
        "double_cosets": (SQUARE, MIRROR, MIRROR),
    },
    "graphs": {"graph_group": (GRAPH,), "canonical_graph": (GRAPH,), "graph_map": (GRAPH, (4, ((0, 2), (1, 2), (1, 3))))},
    "abelian": {
        "diagonal": (MATRIX,), "shows_diagonal": (MATRIX, (((1, 0), (3, -1)), ((2, 0), (0, 4)), ((1, -2), (0, 1)))),
        "solve": (MATRIX, (2, 6)), "shows_answer": (MATRIX, (1, 0), ("obstacle", (1, 0), 2)),
    },
    "factors": {
        "factors_of": (FOUR,), "basis_of": (RING,), "abelian_map": (FOUR, FOUR), "quotient_factors": (SQUARE,),
        "presentation_factors": (PRESENTED,), "cyclic_images": (PRESENTED, 6),
    },
}

ODD_ARGUMENTS = (
    None, True, False, 0, 1, -7, 10 ** 50, "", "(0 1)", "gen", (), (0,), (0, 1), (1, 0), ((0,),), (True,), [], [0, 1], {},
    {"a": 1}, ([],), ({},), (None, None), (4, ()), (4, [(0, 1, 2, 3)]), SQUARE, PAIRS, SQUARED, ((), ()), (("gen", []),),
    ((((0, [1]),),),), (2, {}), CHAIN, TURNS, LONGER[1:], ((0, (), ((0, []),)),), ((0, ({},), ()),), ((), 0), ((), [0]), {(0, 1): (1, 0)}, ["gen"], ("walks", ((0, [1]),)), ("blocks", [PAIRS]), ("orbit", {}),
    PRESENTED, (1, ((1, 1),)), (1, ([1],)), (1, ({},)), [1, ((1,),)], TABLE, [TABLE], (TABLE[0], [2, 0], TABLE[2]), ((1, {}), (2, 0)), "rows", ["scans"],
    ((1,), (2,)), ((1,), [2]), HALVES, SIGNS, ((1, 0), [1, 0]), ((1, 0), {}), (FOUR, [0]), (HALVES, (0, 1, 2, 3)), (HALVES, [0, 1]), ([], (0, 1)), SERIES,
    (SERIES[0], [HALVES], TURNS), (SERIES[0], (TURNS[0], {}), TURNS), 2, 3, 5, (2, 3), (2, [3]), FLIP, 60 * (1,), (4, FOUR[1] * 7), 6 ** 50,
    MOVES, [MOVES[0], MOVES[1]], (MOVES[0], [0]), MIRROR, (2, -1), (2, [1]), (2, True), ((), ()), ((0, 2), [1]), (TURNS[0], {}), (TURNS[0], [TURNS[1]]), 20, 60,
    GRAPH, (4, [(0, 1)]), (4, ((0, [1]),)), (4, ({},)), MATRIX, [MATRIX], (MATRIX[0], [6, 8]), ((2, 4), (6, {})), (MATRIX, MATRIX, MATRIX), (MATRIX, [MATRIX], 0),
    ("obstacle", (1, 0), 2), ("obstacle", [1, 0], {}), ("solution", (1, 0)), ("solution", [1]), ("obstacle", {}, 2), ({}, (1, 0)), ("order g", "let g 3"),
)


def functions():
    for module, told in INTERFACE.items():
        for text in told.split():
            name = text.split("(")[0]
            yield module, name, getattr(importlib.import_module(f"stronggens.{module}"), name), text


class TestInterface(unittest.TestCase):
    def test_names_and_arguments(self):
        for module, name, function, text in functions():
            signature = str(inspect.signature(function)).replace(" ", "")
            self.assertEqual(name + signature, text)
            self.assertEqual(function.__module__, f"stronggens.{module}")

    def test_each_function_has_a_call(self):
        self.assertEqual({(module, name) for module, name, _, _ in functions()},
                         {(module, name) for module in CALLS for name in CALLS[module]})

    def test_arguments_by_name(self):
        for module, name, function, _ in functions():
            words = [word for word, kind in inspect.signature(function).parameters.items()
                     if kind.kind is not inspect.Parameter.KEYWORD_ONLY]
            self.assertEqual(function(**dict(zip(words, CALLS[module][name]))), function(*CALLS[module][name]))


class TestAnswers(unittest.TestCase):
    def test_equal_arguments_have_equal_answers(self):
        for module, name, function, _ in functions():
            told = CALLS[module][name]
            before = repr(told)
            one = function(*told)
            other = function(*told)
            self.assertEqual(repr(one), repr(other), name)
            self.assertEqual(repr(told), before, name)
            if isinstance(one, list):
                self.assertIsNot(one, other)
                one.clear()
                self.assertEqual(function(*told), other)

    def test_any_value_for_any_argument(self):
        """Each argument is spoiled by each odd value: the answer is one of the package's errors, or any answer."""
        for module, name, function, _ in functions():
            told = CALLS[module][name]
            for place in range(len(told)):
                for value in ODD_ARGUMENTS:
                    spoiled = told[:place] + (value,) + told[place + 1:]
                    before = repr(spoiled)
                    try:
                        function(*spoiled)
                    except GroupError as error:
                        self.assertIs(type(error).__base__, GroupError)
                    self.assertEqual(repr(spoiled), before, name)

    def test_the_leftmost_error_is_raised(self):
        """With wrong values from some argument on, the error is the same as with that one alone."""
        for module, name, function, _ in functions():
            told = CALLS[module][name]
            for place in range(len(told) - 1):
                for value in (None, True, [0], {}, "?"):
                    alone = self.error_of(function, told[:place] + (value,) + told[place + 1:])
                    if alone is not None:
                        rest = (value,) * (len(told) - place)
                        self.assertEqual(self.error_of(function, told[:place] + rest), alone, name)

    def error_of(self, function, told):
        try:
            function(*told)
        except GroupError as error:
            return type(error), vars(error)
        return None


class TestSession(unittest.TestCase):
    """The same for the one class of the interface."""

    def method(self, name):
        sessions = importlib.import_module("stronggens.sessions")
        session = sessions.Session()
        session.run("let g 4 (0 1 2 3)")
        return session, getattr(session, name)

    def test_names_and_arguments(self):
        sessions = importlib.import_module("stronggens.sessions")
        self.assertEqual(str(inspect.signature(sessions.Session)), "()")
        for name, words in METHODS.items():
            self.assertEqual(tuple(inspect.signature(vars(sessions.Session)[name]).parameters), ("self",) + words)

    def test_any_value_for_any_argument(self):
        for name, words in METHODS.items():
            for value in ODD_ARGUMENTS if words else ():
                session, method = self.method(name)
                before = repr(value)
                try:
                    method(value)
                except GroupError as error:
                    self.assertIs(type(error).__base__, GroupError)
                    self.assertEqual((session.names(), session.group_of("g")), (("g",), RING))
                self.assertEqual(repr(value), before, name)


class TestIntegers(unittest.TestCase):
    def test_true_and_false_are_none(self):
        perms = importlib.import_module("stronggens.perms")
        orbits = importlib.import_module("stronggens.orbits")
        blocks = importlib.import_module("stronggens.blocks")
        expect(self, BadDegree, {}, perms.identity, True)
        expect(self, BadPermutation, {}, perms.inverse, (True, False))
        expect(self, BadPermutation, {}, perms.product, (1, 0), (True, 0))
        expect(self, BadGroup, {"index": None}, orbits.orbits, (True, ()))
        expect(self, BadGroup, {"index": 1}, orbits.orbits, (2, ((1, 0), (1, False))))
        expect(self, BadPoint, {}, orbits.orbit, SQUARE, True)
        expect(self, BadNumber, {}, blocks.block_group, SQUARE, PAIRS, False)
        self.assertEqual(perms.power(ring(3), 1), (1, 2, 0))


if __name__ == "__main__":
    unittest.main()
