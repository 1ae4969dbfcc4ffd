"""Presentations of known groups with permutations that satisfy them, and a plain way to make coset tables."""

from brute import cyc, ring


def power(word, many):
    return word * many


def commutator(i, j):
    return (i, j, -i, -j)


def dihedral(n):
    flip = tuple((-x) % n for x in range(n))
    return (2, ((1,) * n, (2, 2), power((1, 2), 2))), (n, (ring(n), flip)), 2 * n


def abelian(*orders):
    """The direct product of cyclic groups; its points are those of the cycles, one behind another."""
    many = len(orders)
    relators = [(k + 1,) * n for k, n in enumerate(orders)]
    relators += [commutator(i, j) for i in range(1, many + 1) for j in range(i + 1, many + 1)]
    degree, rows, size = sum(orders), [], 1
    for k, n in enumerate(orders):
        start = sum(orders[:k])
        rows.append(cyc(degree, range(start, start + n)))
        size *= n
    return (many, tuple(relators)), (degree, tuple(rows)), size


# Triples: a presentation, a group of permutations that it presents, and the number of elements.
KNOWN = (
    ((0, ()), (1, ()), 1),
    ((0, ((),)), (3, ()), 1),
    ((1, ((1,),)), (2, ((0, 1),)), 1),
    ((1, ((1, 1),)), (2, ((1, 0),)), 2),
    ((1, ((1,) * 6, (1,) * 60)), (5, (cyc(5, (0, 1, 2), (3, 4)),)), 6),
    ((1, ((1,) * 60,)), (12, (cyc(12, (0, 1, 2), (3, 4, 5, 6), (7, 8, 9, 10, 11)),)), 60),
    ((2, ((1, 1, 1), (2, 2), (1, 2, 1, 2))), (3, ((1, 2, 0), (1, 0, 2))), 6),
    ((3, ((1, 1, 1), (2,), (3, -1))), (3, (ring(3), (0, 1, 2), ring(3))), 3),
    dihedral(4), dihedral(5), dihedral(12),
    ((2, ((1, 1, -2, -2), (1, 2, 1, -2))), (8, (cyc(8, (0, 1, 2, 3), (4, 5, 6, 7)), cyc(8, (0, 4, 2, 6), (1, 7, 3, 5)))), 8),
    ((2, ((1, 1, 1), (2, 2, 2), (1, 2, 1, 2))), (4, (cyc(4, (0, 1, 2)), cyc(4, (1, 2, 3)))), 12),
    ((2, ((1, 1), (2, 2, 2), (1, 2) * 4)), (4, (cyc(4, (0, 1)), cyc(4, (1, 2, 3)))), 24),
    ((2, ((1, 1), (2, 2, 2), (1, 2) * 5)), (5, (cyc(5, (0, 1), (2, 3)), cyc(5, (0, 2, 4)))), 60),
    ((2, ((1,) * 5, (2,) * 4, (-2, 1, 2, -1, -1))), (5, (ring(5), tuple(2 * x % 5 for x in range(5)))), 20),
    ((2, ((1,) * 7, (2,) * 3, (-2, 1, 2, -1, -1))), (7, (ring(7), tuple(2 * x % 7 for x in range(7)))), 21),
    ((2, ((1,) * 11, (2,) * 5, (-2, 1, 2, -1, -1, -1))), (11, (ring(11), tuple(3 * x % 11 for x in range(11)))), 55),
    ((3, ((1, 1), (2, 2), (3, 3), (1, 2) * 3, (2, 3) * 3, (1, 3) * 2)),
     (4, (cyc(4, (0, 1)), cyc(4, (1, 2)), cyc(4, (2, 3)))), 24),
    abelian(2, 2, 2), abelian(3, 3), abelian(4, 2), abelian(3, 4), abelian(2, 3, 5), abelian(2, 2, 2, 2, 2),
)
LARGER = (
    ((2, ((1, 1), (2, 2, 2), (1, 2) * 7, (1, 2, 1, -2) * 4)), None, 168),
    ((4, ((1, 1), (2, 2), (3, 3), (4, 4), (1, 2) * 3, (2, 3) * 3, (3, 4) * 3, (1, 3) * 2, (1, 4) * 2, (2, 4) * 2)), None, 120),
    ((3, ((1, 1, 1), (2, 2, 2), (3, 3, 3), (1, 2, -1, -2, -3), (1, 3, -1, -3), (2, 3, -2, -3))), None, 27),
    abelian(5, 5, 5), abelian(3, 3, 3, 3, 3), abelian(4, 4, 4, 4), abelian(2, 2, 2, 2, 2, 2, 2, 2, 2), abelian(2, 60),
)


def turned_relators(presentation, seed):
    """The same group: relators turned, inverted, written again, and with a letter and its inverse put in."""
    many, relators = presentation
    found = []
    for k, word in enumerate(relators):
        place = (seed * 7 + k) % (len(word) + 1)
        word = word[place:] + word[:place]
        if (seed + k) % 2:
            word = tuple(-letter for letter in word[::-1])
        found.append(word)
        if (seed + k) % 3 == 0:
            found.append(word)
        if (seed + k) % 5 == 0 and many and len(word) < 59:
            found.append(word[:1] + (many, -many) + word[1:])
    return many, tuple(found[seed % 2::] + found[:seed % 2])


class Full(Exception):
    """Another row would be created behind 600."""


class Plain:
    """A coset table in the making: all entries in one dict, all of them written anew by each merging."""

    def __init__(self, many):
        self.letters = [letter for k in range(1, many + 1) for letter in (k, -k)]
        self.entries = {}
        self.heirs = [0]
        self.made = []

    def find(self, row):
        while self.heirs[row] != row:
            row = self.heirs[row]
        return row

    def is_alive(self, row):
        return self.heirs[row] == row

    def alive(self):
        return [row for row in range(len(self.heirs)) if self.is_alive(row)]

    def create(self, row, letter):
        number = len(self.heirs)
        if number == 600:
            raise Full
        self.heirs.append(number)
        self.made.append((row, letter))
        self.know(row, letter, number)

    def know(self, row, letter, target):
        self.entries[row, letter] = target
        self.entries[target, -letter] = row

    def merge(self, one, other):
        pending = [(one, other)]
        while pending:
            low, high = sorted(map(self.find, pending.pop()))
            if low != high:
                self.heirs[high] = low
                old, self.entries = self.entries, {}
                for (row, letter), target in old.items():
                    target = self.find(target)
                    known = self.entries.setdefault((self.find(row), letter), target)
                    if known != target:
                        pending.append((known, target))

    def scan(self, row, word):
        """True if something has changed, False if not, the first entry that is left if more than one is."""
        word = list(word)
        ahead = behind = row
        while word and (ahead, word[0]) in self.entries:
            ahead = self.entries[ahead, word.pop(0)]
        while word and (behind, -word[-1]) in self.entries:
            behind = self.entries[behind, -word.pop()]
        if len(word) > 1:
            return ahead, word[0]
        if word:
            self.know(ahead, word[0], behind)
        elif ahead != behind:
            self.merge(ahead, behind)
        else:
            return False
        return True

    def fill(self, row, word):
        entry = self.scan(row, word)
        while isinstance(entry, tuple):
            self.create(*entry)
            entry = self.scan(row, word)

    def rows(self, relators, words):
        for word in words:
            self.fill(0, word)
        row = 0
        while row < len(self.heirs):
            for relator in relators:
                if self.is_alive(row):
                    self.fill(row, relator)
            for letter in self.letters:
                if self.is_alive(row) and (row, letter) not in self.entries:
                    self.create(row, letter)
            row += 1

    def draw(self, relators, words):
        changed = True
        while changed:
            scans = [(row, relator) for row in self.alive() for relator in relators] + [(0, word) for word in words]
            changed = any([self.is_alive(row) and self.scan(row, word) is True for row, word in scans])

    def scans(self, relators, words):
        self.draw(relators, words)
        unknown = self.unknown()
        while unknown:
            self.create(*unknown[0])
            self.draw(relators, words)
            unknown = self.unknown()

    def unknown(self):
        return [(row, letter) for row in self.alive() for letter in self.letters if (row, letter) not in self.entries]

    def table(self):
        order = [0]
        for row in order:
            for letter in self.letters:
                if self.entries[row, letter] not in order:
                    order.append(self.entries[row, letter])
        return tuple(tuple(order.index(self.entries[row, letter]) for letter in self.letters) for row in order)


def plain_cosets(presentation, words, method):
    """The table and the definitions, None if there would be more than 600 rows."""
    made = Plain(presentation[0])
    try:
        getattr(made, method)(presentation[1], words)
    except Full:
        return None
    return made.table(), tuple(made.made)


def some_word(many, size, seed):
    letters = []
    for _ in range(size if many else 0):
        seed = (seed * 1103515245 + 12345) % 2 ** 31
        letters.append((seed // 64 % many + 1) * (1 if seed // 4096 % 2 else -1))
    return tuple(letters)


def reduced_word(word):
    """The word without letters beside their inverses."""
    letters = []
    for letter in word:
        if letters and letters[-1] == -letter:
            letters.pop()
        else:
            letters.append(letter)
    return tuple(letters)


def back(word):
    return tuple(-letter for letter in word[::-1])


def lead(table, row, word):
    """The row to which a word leads, None if an entry on the way is None."""
    for letter in word:
        if row is not None:
            row = table[row][2 * letter - 2 if letter > 0 else -2 * letter - 1]
    return row


# Values that are no presentation, words, table .. whatever the function; see ODD_VALUES of brute as well.
NO_PRESENTATIONS = (
    None, True, 0, "", (), [], {}, (2,), (2, (), ()), (2, []), (2, {}), (2, None), (-1, ()), (13, ()), (True, ()), ("2", ()),
    (None, ()), [2, ()], (2, ((),) * 61), ((), 2), (10 ** 30, ()), ((2,), ()), (2, "ab"),
)
NO_WORDS = (None, True, 0, 1, "", "ab", [], [1], {}, (0,), (3,), (-3,), (True,), (1, False), (1, None), ("a",), ([1],), ((1,),), (1,) * 61,
            (10 ** 30,))
