"""G-sets by their definitions, for the tests."""

from brute import members, one, shuffled, times, turned
from small import all_subgroups

# Values that are no G-set of any group with one generator or two.
NO_GSETS = (
    None, True, False, 0, 7, "", "ab", (), [], {}, ((),), ((), ()), ((0, 0),), ((1, 2),), ((0, 2, 1),) * 3, (None,), ([0],), ({},), ([1, 0], [1, 0]),
    ((1, 0), (0, 1, 2)), ((True, 0),), ((0, 1), None), ((0, 1), [1, 0]), ((False,), (False,)), ((0, "1"),), ((1, 0), (1, 0), (1, 0)), (0, 0),
    ((-1, 0), (0, 1)), (tuple(range(61)),), (tuple(range(61)),) * 2, ((0, 1), tuple(range(61))), [(0, 1), (0, 1)],
)


def images_of(group, gset):
    """Dict from each element to its image, None if some word has no value of its own."""
    start = (one(group[0]), one(len(gset[0])))
    found, queue = {start[0]: start[1]}, [start]
    for p, q in queue:
        for g, h in zip(group[1], gset):
            pair = (times(p, g), times(q, h))
            if pair[0] not in found:
                found[pair[0]] = pair[1]
                queue.append(pair)
            elif found[pair[0]] != pair[1]:
                return None
    return found


def cosets_of(group, part):
    """The ascending list of the cosets U * g, each as an ascending tuple, which begins with its least element."""
    return sorted({tuple(sorted(times(h, g) for h in part)) for g in members(group)})


def plain_coset_set(group, part):
    rows = cosets_of(group, part)
    return tuple(tuple(rows.index(tuple(sorted(times(p, s) for p in row))) for row in rows) for s in group[1])


def beside(*gsets):
    """The points of each G-set behind those of the ones ahead of it."""
    moves = [() for _ in gsets[0]]
    for gset in gsets:
        moves = [move + tuple(len(move) + x for x in p) for move, p in zip(moves, gset)]
    return tuple(moves)


def renamed(gset, seed):
    """The G-set with its points renamed in some way."""
    names = shuffled(len(gset[0]), seed)
    return tuple(times(times(turned(names), p), names) for p in gset)


def some_gsets(group, most=60):
    """G-sets of a small group: those of cosets, and several side by side, renamed."""
    parts = all_subgroups(group)
    single = [plain_coset_set(group, part) for part in parts if len(members(group)) <= most * len(part)]
    found = [single[(5 * k) % len(single)] for k in range(4)]
    for seed in range(4):
        chosen = [single[(seed + 3 * k * k) % len(single)] for k in range(2 + seed % 3)]
        joined = beside(*chosen)
        if len(joined[0]) <= most:
            found.append(renamed(joined, 17 * seed + 3))
    return found


def stabilizer(images, point):
    return tuple(sorted(p for p, q in images.items() if q[point] == point))


def fixed(images, part):
    size = len(next(iter(images.values())))
    return tuple(x for x in range(size) if all(images[p][x] == x for p in part))
