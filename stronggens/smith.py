"""Diagonal forms of integer matrices by steps of rows and columns (H. Smith, 1861), without checks."""


class Reduction:
    """A matrix that is brought to its diagonal form, with all that was done to its rows and to its columns.

    The product of left, the matrix at the beginning, and right is the form.
    """

    def __init__(self, matrix):
        self.form = [list(row) for row in matrix]
        self.left = square_unit(len(self.form))
        self.right = square_unit(len(self.form[0]))
        for at in range(min(len(self.left), len(self.right))):
            self.clear_from(at)

    def clear_from(self, at):
        """Have an entry on the diagonal that divides all entries behind it, and 0 beside and below it."""
        while True:
            found = self.least_from(at)
            if found is None:
                return
            self.bring(at, found)
            if self.clear_column(at) and self.clear_row(at) and self.divides_rest(at):
                return

    def least_from(self, at):
        """Return the place of a least entry but 0 of the rows and columns from one on, None if all are 0."""
        places = [(abs(entry), i, j) for i, row in enumerate(self.form) for j, entry in enumerate(row)
                  if i >= at and j >= at and entry != 0]
        return min(places)[1:] if places else None

    def bring(self, at, place):
        """Have the entry of a place, without its sign, on the diagonal."""
        i, j = place
        for rows in (self.form, self.left):
            rows[at], rows[i] = rows[i], rows[at]
        for rows in (self.form, self.right):
            for row in rows:
                row[at], row[j] = row[j], row[at]
        if self.form[at][at] < 0:
            for rows in (self.form, self.left):
                rows[at] = [-entry for entry in rows[at]]

    def clear_column(self, at):
        """Take a row away from those below it as often as it goes; tell whether only zeros are left in its column."""
        for i in range(at + 1, len(self.form)):
            times = self.form[i][at] // self.form[at][at]
            for rows in (self.form, self.left):
                rows[i] = [entry - times * taken for entry, taken in zip(rows[i], rows[at])]
        return not any([self.form[i][at] != 0 for i in range(at + 1, len(self.form))])

    def clear_row(self, at):
        """Take a column away from those behind it as often as it goes; tell whether only zeros are left in its row."""
        quotients = [entry // self.form[at][at] for entry in self.form[at]]
        for rows in (self.form, self.right):
            for row in rows:
                for j in range(at + 1, len(row)):
                    row[j] = row[j] - quotients[j] * row[at]
        return not any([entry != 0 for entry in self.form[at][at + 1:]])

    def divides_rest(self, at):
        """Tell whether an entry divides all rows below it; if not, add one that it does not divide to its own row."""
        for i in range(at + 1, len(self.form)):
            if any([entry % self.form[at][at] != 0 for entry in self.form[i]]):
                for rows in (self.form, self.left):
                    rows[at] = [entry + more for entry, more in zip(rows[at], rows[i])]
                return False
        return True

    def diagonal_entries(self):
        """Return the list of the entries on the diagonal."""
        return [row[at] for at, row in enumerate(self.form) if at < len(row)]


def square_unit(size):
    """Return the square matrix with 1 on the diagonal and 0 elsewhere, as a list of lists."""
    return [[1 if i == j else 0 for j in range(size)] for i in range(size)]


def times_matrix(one, other):
    """Return the product of two matrices as a tuple of tuples."""
    columns = list(zip(*other))
    return tuple([tuple([times_row(row, column) for column in columns]) for row in one])


def times_row(row, column):
    """Return the sum of the products of the entries of a row and a column."""
    return sum([entry * factor for entry, factor in zip(row, column)])


def determinant(matrix):
    """Return the determinant of a square integer matrix (E. Bareiss, 1968)."""
    rows = [list(row) for row in matrix]
    before = 1
    sign = 1
    for at in range(len(rows)):
        found = [i for i in range(at, len(rows)) if rows[i][at] != 0]
        if not found:
            return 0
        if found[0] != at:
            rows[at], rows[found[0]] = rows[found[0]], rows[at]
            sign = -sign
        for i in range(at + 1, len(rows)):
            # Each of these quotients is a minor of the matrix, so it is an integer.
            rows[i] = [(entry * rows[at][at] - rows[i][at] * top) // before for entry, top in zip(rows[i], rows[at])]
        before = rows[at][at]
    return sign * before
