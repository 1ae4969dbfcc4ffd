"""Coset tables in the making: rows that are created, scanned and merged (J. Todd, H. Coxeter, 1936)."""

from stronggens.errors import TooMany
from stronggens.letters import columns_of, inverted, letter_at

MOST_ROWS = 600


class Enumeration:
    """Rows with an entry for each letter, None if it is unknown, and for each row the one it is merged into."""

    def __init__(self, many):
        self.many = many
        self.rows = [[None] * (2 * many)]
        self.heirs = [0]
        self.made = []
        self.fresh = []
        self.merged = False

    def copied(self):
        """Return another object with the same rows."""
        twin = Enumeration(self.many)
        twin.rows = [list(row) for row in self.rows]
        twin.heirs = list(self.heirs)
        return twin

    def is_alive(self, row):
        """Tell whether a row is not merged into a lesser one."""
        return self.heirs[row] == row

    def heir(self, row):
        """Return the row that is alive and stands for a row."""
        while self.heirs[row] != row:
            row = self.heirs[row]
        return row

    def create(self, row, column):
        """Give an entry a new row, and return that row."""
        number = len(self.rows)
        if number == MOST_ROWS:
            raise TooMany(MOST_ROWS)
        self.rows.append([None] * (2 * self.many))
        self.heirs.append(number)
        self.made.append((row, letter_at(column)))
        self.know(row, column, number)
        return number

    def know(self, row, column, target):
        """Have an unknown entry, and the one that leads back, known."""
        self.rows[row][column] = target
        self.rows[target][column ^ 1] = row
        self.fresh.append((row, column))

    def scan(self, row, columns):
        """Scan a word at a row; return the first entry that is left if more than one is, otherwise None."""
        first = last = row
        start, end = 0, len(columns)
        while start < end and self.rows[first][columns[start]] is not None:
            first = self.rows[first][columns[start]]
            start += 1
        while start < end and self.rows[last][columns[end - 1] ^ 1] is not None:
            last = self.rows[last][columns[end - 1] ^ 1]
            end -= 1
        if end - start > 1:
            return first, columns[start]
        if end - start == 1:
            self.know(first, columns[start], last)
        elif first != last:
            self.merge(first, last)
        return None

    def fill(self, row, columns):
        """Scan a word at a row, and create rows until no more than one letter is left."""
        entry = self.scan(row, columns)
        while entry is not None:
            self.create(entry[0], entry[1])
            entry = self.scan(row, columns)

    def merge(self, one, other):
        """Merge two rows, and all rows that must then be the same."""
        pending = [(one, other)]
        while pending:
            one, other = pending.pop()
            low, high = sorted([self.heir(one), self.heir(other)])
            if low != high:
                self.merged = True
                self.heirs[high] = low
                pending.extend(self.move(low, high))

    def move(self, low, high):
        """Give the entries of a row to a lesser one, and return the pairs of rows that must be the same by that."""
        pairs = []
        for column in range(2 * self.many):
            target = self.rows[high][column]
            if target is not None:
                self.rows[high][column] = None
                self.rows[target][column ^ 1] = None
                target = low if target == high else target
                known, back = self.rows[low][column], self.rows[target][column ^ 1]
                if known is not None:
                    pairs.append((known, target))
                elif back is not None:
                    pairs.append((back, low))
                else:
                    self.know(low, column, target)
        return pairs

    def follow(self, turns):
        """Scan each relator wherever an entry became known, until nothing changes."""
        while self.fresh:
            row, column = self.fresh.pop()
            for columns in turns[column]:
                # The row may have been merged since.
                if self.rows[row][column] is None:
                    break
                self.scan(row, columns)

    def settle(self, relators):
        """Scan all relators at all rows until nothing changes; tell whether no rows are merged by that."""
        while self.fresh:
            self.fresh.clear()
            for row in range(len(self.rows)):
                for columns in relators:
                    self.scan(row, columns)
                    if self.merged:
                        return False
        return True

    def start(self, row, singles):
        """Scan the relators of one letter at a row; no entry has to be known for them."""
        for columns in singles:
            self.scan(row, columns)


def turns_of(many, relators):
    """Return, for each column, the relators and their inverses turned so that they begin with it.

    If all entries around a relator but one are known, that is seen from wherever in the relator it is begun.
    """
    turns = [[] for _ in range(2 * many)]
    seen = set()
    for relator in relators:
        for columns in (columns_of(relator), columns_of(inverted(relator))):
            for place in range(len(columns)):
                turned = columns[place:] + columns[:place]
                if turned not in seen:
                    seen.add(turned)
                    turns[turned[0]].append(turned)
    return turns


def singles_of(relators):
    """Return the columns of the relators of one letter."""
    return [columns_of(relator) for relator in relators if len(relator) == 1]


def by_rows(presentation, words):
    """Return the enumeration that fills the words, and then each relator row by row."""
    many, relators = presentation
    told = Enumeration(many)
    for word in words:
        told.fill(0, columns_of(word))
    filling = [columns_of(relator) for relator in relators]
    row = 0
    while row < len(told.rows):
        _fill_row(told, row, filling)
        row += 1
    return told


def _fill_row(told, row, filling):
    for columns in filling:
        if told.is_alive(row):
            told.fill(row, columns)
    if told.is_alive(row):
        for column in range(2 * told.many):
            if told.rows[row][column] is None:
                told.create(row, column)


def by_scans(presentation, words):
    """Return the enumeration that creates a row only where nothing more follows."""
    many, relators = presentation
    told = Enumeration(many)
    turns, singles = turns_of(many, relators), singles_of(relators)
    scanning = [columns_of(word) for word in words]
    told.start(0, singles)
    _draw(told, turns, scanning)
    row = 0
    while row < len(told.rows):
        if told.is_alive(row) and None in told.rows[row]:
            number = told.create(row, told.rows[row].index(None))
            told.start(number, singles)
            _draw(told, turns, scanning)
        else:
            row += 1
    return told


def _draw(told, turns, scanning):
    """Have everything known that follows."""
    changed = True
    while changed:
        told.follow(turns)
        for columns in scanning:
            told.scan(0, columns)
        # Each change makes some entry known, merging included.
        changed = len(told.fresh) > 0
