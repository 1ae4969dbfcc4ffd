"""Partitions of points, without checks of their arguments."""

from stronggens.checks import are_ascending_points, is_degree


def is_partition(degree, value):
    """Tell whether a value is a partition of the points of a degree."""
    if type(value) is not tuple or not all(are_ascending_points(degree, block) for block in value):
        return False
    points = [point for block in value for point in block]
    if () in value or sorted(points) != list(range(degree)):
        return False
    firsts = [block[0] for block in value]
    return firsts == sorted(firsts)


def is_any_partition(value):
    """Tell whether a value is a partition of the points of some degree."""
    if type(value) is not tuple or not all(type(block) is tuple for block in value):
        return False
    degree = sum([len(block) for block in value])
    return is_degree(degree) and is_partition(degree, value)


def labels_of(partition):
    """Return a dict from each point to the index of its block."""
    labels = {}
    for number, block in enumerate(partition):
        for point in block:
            labels[point] = number
    return labels


def from_labels(labels):
    """Return the partition in which points with equal labels are in one block; there is a label for each point."""
    blocks = {}
    for point, label in enumerate(labels):
        blocks.setdefault(label, []).append(point)
    return tuple([tuple(block) for block in blocks.values()])


def linked(degree, generators, pairs):
    """Return the finest partition that the generators keep and that has both points of each pair in one block."""
    labels = list(range(degree))
    pending = list(pairs)
    while pending:
        a, b = pending.pop()
        old, new = labels[a], labels[b]
        if old != new:
            labels = [new if label == old else label for label in labels]
            # The images of a pair that was in one block already follow from those of the pairs that put it there.
            pending.extend([(p[a], p[b]) for p in generators])
    return from_labels(labels)


def neighbors(points):
    """Return the pairs of points that stand next to each other."""
    return list(zip(points, points[1:]))


def join_of(one, other):
    """Return the finest partition that is as coarse as both."""
    degree = sum([len(block) for block in one])
    return linked(degree, (), [pair for block in one + other for pair in neighbors(block)])


def meet_of(one, other):
    """Return the coarsest partition that is as fine as both."""
    ones, others = labels_of(one), labels_of(other)
    return from_labels([(ones[point], others[point]) for point in range(len(ones))])


def is_kept(generators, partition):
    """Tell whether each generator takes each block to a block."""
    blocks = {block: True for block in partition}
    return all(tuple(sorted([p[x] for x in block])) in blocks for p in generators for block in partition)


def block_image(partition, p):
    """Return the permutation of the indexes of the blocks that a permutation which keeps the partition makes."""
    labels = labels_of(partition)
    return tuple([labels[p[block[0]]] for block in partition])
