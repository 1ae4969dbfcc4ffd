"""Records of how permutations, or words, were made, from which programs are cut."""

from stronggens.programs import needed_steps
from stronggens.quick import compose, invert


class Tape:
    """The steps by which permutations were made from generators; the identity needs none."""

    def __init__(self, one, generators):
        self.one = one
        self.steps = []
        self.places = {}
        for index, p in enumerate(generators):
            self.note(p, ("gen", index))

    def joined(self, p, q):
        """Return the product of two permutations."""
        return compose(p, q)

    def flipped(self, p):
        """Return the inverse of a permutation."""
        return invert(p)

    def note(self, p, step):
        """Add a step that makes p, unless there is one, and return p."""
        if p not in self.places:
            self.places[p] = len(self.steps)
            self.steps.append(step)
        return p

    def times(self, p, q):
        """Return the product of two permutations that are on the tape, and have it there."""
        if p == self.one:
            return q
        if q == self.one:
            return p
        return self.note(self.joined(p, q), ("mul", self.places[p], self.places[q]))

    def turned(self, p):
        """Return the inverse of a permutation that is on the tape, and have it there."""
        if p == self.one:
            return p
        return self.note(self.flipped(p), ("inv", self.places[p]))

    def program(self, p):
        """Return a program, of no more steps than needed, for a permutation that is on the tape."""
        if p == self.one:
            return ()
        steps = self.steps[:self.places[p] + 1]
        numbers = {}
        rows = []
        for place in needed_steps(steps):
            numbers[place] = len(numbers)
            step = steps[place]
            operands = step[1:] if step[0] == "gen" else [numbers[operand] for operand in step[1:]]
            rows.append((step[0], *operands))
        return tuple(rows)
