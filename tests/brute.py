"""Slow and plain ways to work with small groups, and values of many kinds, for the tests."""

import itertools

# Values that are no permutation, group, word, program, partition .. whatever the function.
ODD_VALUES = (
    None, True, False, -1, 13, 10 ** 40, "", "0 1", "()", (None,), (True,), (True, 0), ("0",), [0, 1], [], {}, {"a": 1},
    ((0, 1), (1, 0)), (0, 0), (1, 2), (0, 1, 2, 2), ((),), ([0],), ({},), tuple(range(13)), (0, None), (0, [1]),
)


def times(p, q):
    return tuple(q[x] for x in p)


def turned(p):
    return tuple(p.index(x) for x in range(len(p)))


def one(degree):
    return tuple(range(degree))


def all_perms(degree):
    return list(itertools.permutations(range(degree)))


def closure(degree, generators):
    """The ascending list of all products of the generators."""
    found = {one(degree)}
    fresh = list(found)
    while fresh:
        fresh = [r for r in {times(p, q) for p in fresh for q in generators} if r not in found]
        found.update(fresh)
    return sorted(found)


def members(group):
    return closure(*group)


def cyc(degree, *rows):
    """The permutation with these cycles."""
    images = list(range(degree))
    for row in rows:
        for place, point in enumerate(row):
            images[point] = row[(place + 1) % len(row)]
    return tuple(images)


def ring(degree):
    return tuple(range(1, degree)) + (0,)


def symmetric(degree):
    return (degree, (ring(degree), cyc(degree, (0, 1)))) if degree > 1 else (1, ())


SQUARE = (4, ((1, 2, 3, 0), (0, 3, 2, 1)))
MATHIEU_11 = (11, (cyc(11, range(11)), cyc(11, (2, 6, 10, 7), (3, 9, 4, 5))))
MATHIEU_12 = (12, (cyc(12, range(11)), cyc(12, (2, 6, 10, 7), (3, 9, 4, 5)),
                   cyc(12, (0, 11), (1, 10), (2, 5), (3, 7), (4, 8), (6, 9))))

SMALL = (
    (1, ()), (1, ((0,),)), (2, ()), (2, ((1, 0),)), (2, ((0, 1), (1, 0), (1, 0))),
    (3, ()), (3, (ring(3),)), (3, ((0, 2, 1),)), symmetric(3), (3, ((0, 1, 2), (1, 2, 0), (1, 2, 0), (2, 0, 1))),
    (4, ()), (4, (ring(4),)), SQUARE, symmetric(4), (4, (cyc(4, (0, 1, 2)), cyc(4, (1, 2, 3)))),
    (4, ((1, 0, 3, 2), (2, 3, 0, 1))), (4, ((1, 0, 2, 3), (0, 1, 3, 2))), (4, ((0, 2, 3, 1),)),
    (5, (ring(5),)), (5, (ring(5), cyc(5, (1, 4), (2, 3)))), (5, (ring(5), cyc(5, (1, 2, 4, 3)))), symmetric(5),
    (5, (cyc(5, (0, 1, 2)), cyc(5, (3, 4)))), (5, (cyc(5, (0, 1, 2)), cyc(5, (2, 3, 4)))),
    (5, (cyc(5, (0, 4), (1, 3)), cyc(5, (1, 3)))),
    (6, (ring(6),)), (6, (ring(6), cyc(6, (1, 5), (2, 4)))), (6, (cyc(6, (0, 1, 2)), cyc(6, (3, 4, 5)))),
    (6, (cyc(6, (0, 1, 2, 3)), cyc(6, (0, 4, 2, 5)))), (6, (cyc(6, (0, 1, 2), (3, 4, 5)), cyc(6, (0, 3), (1, 5), (2, 4)))),
    (6, (cyc(6, (0, 1)), cyc(6, (2, 3)), cyc(6, (0, 2, 4), (1, 3, 5)))),
)

# Groups with a few hundred elements at most, of degrees up to 12.
WIDER = (
    (7, (ring(7), cyc(7, (1, 2, 4), (3, 6, 5)))), (8, (ring(8), cyc(8, (1, 7), (2, 6), (3, 5)))),
    (8, (cyc(8, (0, 1), (2, 3), (4, 5), (6, 7)), cyc(8, (0, 2), (1, 3), (4, 6), (5, 7)),
         cyc(8, (0, 4), (1, 5), (2, 6), (3, 7)))),
    (9, (cyc(9, (0, 1, 2), (3, 4, 5), (6, 7, 8)), cyc(9, (0, 3, 6), (1, 4, 7), (2, 5, 8)),
         cyc(9, (1, 2), (3, 6), (4, 8), (5, 7)))),
    (10, (ring(10),)), (12, (ring(12), cyc(12, (1, 11), (2, 10), (3, 9), (4, 8), (5, 7)))),
    (12, (cyc(12, (0, 1, 2), (3, 4, 5), (6, 7, 8), (9, 10, 11)), cyc(12, (0, 3), (1, 4), (2, 5)))),
    (11, (ring(11), tuple(3 * x % 11 for x in range(11)))),
)


def shuffled(degree, seed):
    """Some permutation of the degree, a different one for most seeds."""
    points, images = list(range(degree)), []
    for size in range(degree, 0, -1):
        seed = (seed * 1103515245 + 12345) % 2 ** 31
        images.append(points.pop(seed // 64 % size))
    return tuple(images)


def acting(degree, group, act, start):
    """All that start becomes by the elements of a small group."""
    return sorted({act(start, p) for p in closure(degree, group)})


def all_partitions(degree):
    """All partitions of the points of a degree."""
    found = [()]
    for point in range(degree):
        longer = []
        for blocks in found:
            longer.append(blocks + ((point,),))
            for place, block in enumerate(blocks):
                longer.append(blocks[:place] + (block + (point,),) + blocks[place + 1:])
        found = longer
    return found


def least_words(generators, start, act):
    """Dict from all that start becomes to its first word, tried word by word in their order."""
    letters = [(k, p) for i, g in enumerate(generators) for k, p in ((i + 1, g), (-i - 1, turned(g)))]
    found = {start: ()}
    row = [(start, ())]
    while row:
        longer = []
        for thing, word in row:
            for letter, p in letters:
                image = act(thing, p)
                if image not in found:
                    found[image] = word + (letter,)
                    longer.append((image, found[image]))
        row = longer
    return found


def run_steps(degree, generators, program):
    """The value of a program, by products of one's own."""
    values = []
    for step in program:
        if step[0] == "gen":
            values.append(generators[step[1]])
        elif step[0] == "mul":
            values.append(times(values[step[1]], values[step[2]]))
        else:
            values.append(turned(values[step[1]]))
    return values[-1] if values else one(degree)


def expect(case, error, fields, function, *args, **named):
    """Check that a call raises just this error, with these fields, and leaves its arguments as they are."""
    before = repr((args, named))
    with case.assertRaises(error, msg=f"{function.__name__}{args}{named}") as caught:
        function(*args, **named)
    case.assertIs(type(caught.exception), error, f"{function.__name__}{args}{named}")
    case.assertEqual(vars(caught.exception), fields, f"{function.__name__}{args}{named}")
    case.assertEqual(repr((args, named)), before)
