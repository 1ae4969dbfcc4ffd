"""Groups of degree 7 to 12 with many elements, and groups moved by a permutation, for the tests."""

from brute import MATHIEU_11, MATHIEU_12, cyc, symmetric, times, turned


def alternating(degree):
    return (degree, tuple(cyc(degree, (0, 1, k)) for k in range(2, degree)))


def moved(group, p):
    """The conjugates of a group's elements by a permutation."""
    return (group[0], tuple(times(times(turned(p), g), p) for g in group[1]))


# Two halves of six points, three parts of four, four of three, six of two, with all that permutes the parts.
HALVES = (12, (cyc(12, range(6)), cyc(12, (0, 1)), cyc(12, *[(k, k + 6) for k in range(6)])))
THIRDS = (12, (cyc(12, (0, 1, 2, 3)), cyc(12, (0, 1)), cyc(12, *[(k, k + 4, k + 8) for k in range(4)]), cyc(12, *[(k, k + 4) for k in range(4)])))
FOURTHS = (12, (cyc(12, (0, 1, 2)), cyc(12, (0, 1)), cyc(12, *[(k, k + 3, k + 6, k + 9) for k in range(3)]), cyc(12, *[(k, k + 3) for k in range(3)])))
COUPLES = (12, (cyc(12, (0, 1)), cyc(12, range(0, 12, 2), range(1, 12, 2)), cyc(12, (0, 2), (1, 3))))
FIVE_AND_SEVEN = (12, (cyc(12, range(5)), cyc(12, (0, 1)), cyc(12, range(5, 12)), cyc(12, (5, 6))))
# An odd swap of two points beside all even permutations of the others.
EVEN_AND_SWAP = (12, (cyc(12, (0, 1)),) + tuple(cyc(12, (2, 3, k)) for k in range(4, 12)))
LINEAR = (8, (cyc(8, range(7)), cyc(8, (1, 2, 4), (3, 6, 5)), cyc(8, (0, 7), (1, 6), (2, 3), (4, 5))))
CUBE_MAPS = (8, (cyc(8, (0, 1), (2, 3), (4, 5), (6, 7)), cyc(8, (1, 2, 4, 3, 6, 7, 5)), cyc(8, (1, 2), (5, 6))))
GREAT_ONES = (
    symmetric(7), alternating(8), symmetric(9), symmetric(12), alternating(12), MATHIEU_11, MATHIEU_12, HALVES, THIRDS, FOURTHS, COUPLES,
    FIVE_AND_SEVEN, EVEN_AND_SWAP, LINEAR, CUBE_MAPS,
)
