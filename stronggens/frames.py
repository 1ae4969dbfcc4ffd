"""Small groups with their elements numbered, and all their subgroups."""

from stronggens.quick import compose, invert


class Frame:
    """A small group: its elements in ascending order, which numbers them, and the table of their products.

    The identity is the least of all permutations, so its number is 0.
    """

    def __init__(self, rows):
        self.rows = rows
        self.numbers = {p: number for number, p in enumerate(rows)}
        self.table = [[self.numbers[compose(p, q)] for q in rows] for p in rows]
        self.inverses = [self.numbers[invert(p)] for p in rows]

    def conjugate_of(self, number, by):
        """Return the number of the conjugate of an element by another one."""
        return self.table[self.table[self.inverses[by]][number]][by]

    def written(self, part):
        """Return the element list of a part."""
        return tuple([self.rows[number] for number in part.numbers])


class Part:
    """A subgroup of a frame: the ascending numbers of its elements, the same as bits, and some generators."""

    def __init__(self, numbers, generators):
        self.numbers = tuple(sorted(numbers))
        self.mask = mask_of(numbers)
        self.generators = generators

    def holds(self, number):
        """Tell whether an element lies in the subgroup."""
        return self.mask >> number & 1 == 1

    def lies_in(self, other):
        """Tell whether all elements lie in another subgroup."""
        return self.mask & other.mask == self.mask


def mask_of(numbers):
    """Return the integer that has these bits."""
    mask = 0
    for number in numbers:
        mask = mask | 1 << number
    return mask


def trivial_part():
    """Return the subgroup that has the identity alone."""
    return Part([0], [])


def widened(frame, part, number):
    """Return the subgroup that a subgroup and one more element generate."""
    if part.holds(number):
        return part
    generators = [*part.generators, number]
    found = list(part.numbers)
    mask = part.mask
    leaders = [0]
    at = 0
    while at < len(leaders):
        for g in generators:
            q = frame.table[leaders[at]][g]
            if mask >> q & 1 == 0:
                fresh = [frame.table[h][q] for h in part.numbers]
                leaders.append(q)
                found.extend(fresh)
                mask = mask | mask_of(fresh)
        at += 1
    return Part(found, generators)


def part_of(frame, numbers):
    """Return the subgroup that some elements generate."""
    part = trivial_part()
    for number in numbers:
        part = widened(frame, part, number)
    return part


def all_parts(frame):
    """Return the list of all subgroups, by the numbers of their elements, then as tuples."""
    # Each subgroup comes from a lesser one by adding one cyclic group.
    cyclic = {}
    for number in range(1, len(frame.rows)):
        part = part_of(frame, [number])
        cyclic.setdefault(part.mask, number)
    first = trivial_part()
    found = {first.mask: first}
    queue = [first]
    while queue:
        part = queue.pop()
        for number in cyclic.values():
            if not part.holds(number):
                wider = widened(frame, part, number)
                if wider.mask not in found:
                    found[wider.mask] = wider
                    queue.append(wider)
    return sorted(found.values(), key=lambda part: (len(part.numbers), part.numbers))


def is_normal(frame, part, by):
    """Tell whether the conjugates of a subgroup by some elements are the subgroup itself."""
    return all(part.holds(frame.conjugate_of(number, g)) for number in part.generators for g in by)
