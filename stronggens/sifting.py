"""Membership in a group, with programs for elements and certificates for others."""

from stronggens.checks import check_group, check_permutation, is_between, is_program, is_tuple_of
from stronggens.programs import run_program
from stronggens.quick import compose
from stronggens.towers import tower_of


def contains(group, p):
    """Tell whether a permutation of the group's degree is an element of the group."""
    return _tower(group, p).holds(p)


def membership(group, p):
    """Return a program whose value is p, None if p is not an element."""
    tower = _tower(group, p)
    rest, _, factors = tower.sift(p)
    return tower.tape.program(tower.tape.turned(_product(tower.tape, factors))) if rest == tower.one else None


def outsider(group, p):
    """Return a certificate that p is not an element, None if it is one."""
    tower = _tower(group, p)
    rest, at, factors = tower.sift(p)
    return None if rest == tower.one else (tower.tape.program(_product(tower.tape, factors)), at)


def shows_outsider(group, p, value):
    """Tell whether any value is a certificate that p is not an element."""
    tower = _tower(group, p)
    floors = tower.floors
    if not is_tuple_of(value, 2) or not is_between(value[1], 0, len(floors)) or not is_program(len(group[1]), value[0]):
        return False
    program, at = value
    rest = compose(p, run_program(group, program))
    if any(rest[floor.point] != floor.point for floor in floors[:at]):
        return False
    if at == len(floors):
        return rest != tower.one
    return rest[floors[at].point] not in floors[at].forth


def _tower(group, p):
    """Return the tower of a group over its base points, if p is a permutation of its degree."""
    check_group(group)
    check_permutation(group[0], p)
    tower = tower_of(group)
    tower.trim(0)
    return tower


def _product(tape, factors):
    """Return the product of permutations that are on the tape, and have it there."""
    made = tape.one
    for factor in factors:
        made = tape.times(made, factor)
    return made
