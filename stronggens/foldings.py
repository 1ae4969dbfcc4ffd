"""Folded rows of words in free groups (J. Stallings, 1983), and programs over the words along them."""

from stronggens.enumerations import Enumeration
from stronggens.letters import cancelled, columns_of, inverted
from stronggens.tapes import Tape


def folded_rows(many, words):
    """Return the enumeration in which each of the words leads from row 0 back to it."""
    told = Enumeration(many)
    for word in words:
        told.fill(0, columns_of(cancelled(word)))
    return told


def trimmed(rows):
    """Return the rows, but entries that lead to or from a row other than row 0 with no other entry are None."""
    rows = [list(row) for row in rows]
    # Each row was reached from one ahead of it, so what hangs on a row alone is gone when its turn comes.
    for row in reversed(range(1, len(rows))):
        known = [column for column, target in enumerate(rows[row]) if target is not None]
        if len(known) == 1:
            target = rows[row][known[0]]
            rows[row][known[0]] = None
            rows[target][known[0] ^ 1] = None
    return rows


def met_rows(some, others):
    """Return the rows for the pairs of rows of two tables that are reached from the pair of their first rows."""
    numbers = {(0, 0): 0}
    pairs = [(0, 0)]
    rows = []
    while len(rows) < len(pairs):
        one, other = pairs[len(rows)]
        row = []
        for pair in list(zip(some[one], others[other])):
            if None in pair:
                row.append(None)
            else:
                if pair not in numbers:
                    numbers[pair] = len(pairs)
                    pairs.append(pair)
                row.append(numbers[pair])
        rows.append(row)
    return rows


def completed(rows, column):
    """Return a permutation of the rows that carries them as the entries of a column do, where they are known."""
    free = [row for row in range(len(rows)) if rows[row][column ^ 1] is None]
    images = []
    for row in rows:
        images.append(free.pop() if row[column] is None else row[column])
    return tuple(images)


class WordTape(Tape):
    """The steps by which reduced words were made from words."""

    def joined(self, p, q):
        """Return the reduced product of two words."""
        return cancelled(p + q)

    def flipped(self, p):
        """Return the inverse of a word."""
        return inverted(p)


class Folding:
    """Folded rows whose entries have labels: what a word that leads from row 0 to row 0 is freely equal to.

    A label is a word of the subgroup, made from the given words on a tape. The product of the labels along a word is
    freely equal to the word. Where a row was merged into another one, the label of that move is kept with it.
    """

    def __init__(self, words):
        self.tape = WordTape((), [cancelled(word) for word in words])
        self.rows = [{}]
        self.moves = {}
        self.pending = []
        for word in words:
            self.lay(cancelled(word))
            self.settle()

    def lay(self, word):
        """Have a loop for a word, which is the label of its first entry; the others have the label ()."""
        row = 0
        for place, column in enumerate(columns_of(word)):
            target = 0 if place == len(word) - 1 else len(self.rows)
            if target != 0:
                self.rows.append({})
            self.pending.append((row, column, target, word if place == 0 else ()))
            row = target

    def settle(self):
        """Place all entries that are pending."""
        while self.pending:
            row, column, target, label = self.pending.pop()
            while row in self.moves:
                row, move = self.moves[row]
                label = self.tape.times(move, label)
            while target in self.moves:
                target, move = self.moves[target]
                label = self.tape.times(label, self.tape.turned(move))
            self.enter(row, column, target, label)

    def enter(self, row, column, target, label):
        """Have an entry, or merge rows if another one stands in its place."""
        back = self.tape.turned(label)
        if column in self.rows[row]:
            self.merge(self.rows[row][column], (target, label))
        elif column ^ 1 in self.rows[target]:
            self.merge(self.rows[target][column ^ 1], (row, back))
        else:
            self.rows[row][column] = (target, label)
            self.rows[target][column ^ 1] = (row, back)

    def merge(self, kept, left):
        """Merge two rows, other than row 0 into another one, that one letter leads to with different labels."""
        if left[0] == 0:
            kept, left = left, kept
        row, target = left[0], kept[0]
        if row == target:
            return
        self.moves[row] = (target, self.tape.times(self.tape.turned(kept[1]), left[1]))
        for column, (other, label) in list(self.rows[row].items()):
            if other != row:
                del self.rows[other][column ^ 1]
            self.pending.append((row, column, other, label))
        self.rows[row] = {}

    def program(self, word):
        """Return a program whose value is freely equal to a reduced word, None if it is not in the subgroup."""
        row = 0
        made = ()
        for column in columns_of(word):
            if column not in self.rows[row]:
                return None
            row, label = self.rows[row][column]
            made = self.tape.times(made, label)
        return self.tape.program(made) if row == 0 else None
