"""The classes of conjugate subgroups of a small group."""

from stronggens.frames import Frame, Part, all_parts, mask_of
from stronggens.tours import reached
from stronggens.towers import listed


class Lattice:
    """The classes of conjugate subgroups, each an ascending list of parts of a frame, least parts first.

    The place of a subgroup, told by its bits, is the index of its class.
    """

    def __init__(self, group, most):
        self.frame = Frame(listed(group, most))
        self.classes = []
        self.places = {}
        turns = [_turn(self.frame, self.frame.numbers[g]) for g in group[1]]
        for part in all_parts(self.frame):
            if part.mask not in self.places:
                row = []
                for numbers in sorted(reached(part.numbers, turns, _turned)):
                    row.append(part if numbers == part.numbers else Part(numbers, numbers))
                    self.places[row[-1].mask] = len(self.classes)
                self.classes.append(row)

    def heads(self):
        """Return the list of the first subgroups of the classes."""
        return [row[0] for row in self.classes]

    def many_cosets(self, part):
        """Return the number of cosets of a subgroup."""
        return len(self.frame.rows) // len(part.numbers)

    def place_of(self, numbers):
        """Return the index of the class of the subgroup with these elements."""
        return self.places[mask_of(numbers)]

    def normalizing(self, part):
        """Return the list of the numbers of the elements that carry a subgroup to itself."""
        return [n for n in range(len(self.frame.rows))
                if all([part.holds(self.frame.conjugate_of(number, n)) for number in part.generators])]


def _turn(frame, g):
    """Return the tuple of the numbers of all elements conjugated by one."""
    return tuple([frame.conjugate_of(number, g) for number in range(len(frame.rows))])


def _turned(numbers, turn):
    return tuple(sorted([turn[number] for number in numbers]))
