"""Integer matrices: diagonal forms, and systems of equations with certificates."""

from stronggens.checks import is_between, is_tuple_of
from stronggens.errors import BadMatrix, BadTarget
from stronggens.smith import Reduction, determinant, times_matrix, times_row

MOST_ROWS = 6
GREATEST_ENTRY = 1000000


def diagonal(matrix):
    """Return (left, form, right): unimodular matrices and the diagonal form that they make of a matrix."""
    _check_matrix(matrix)
    told = Reduction(matrix)
    return _frozen(told.left), _frozen(told.form), _frozen(told.right)


def shows_diagonal(matrix, value):
    """Tell whether any value is a triple of unimodular matrices and the diagonal form that they make."""
    _check_matrix(matrix)
    many, width = len(matrix), len(matrix[0])
    if not is_tuple_of(value, 3):
        return False
    left, form, right = value
    if not _is_matrix(left, many, many) or not _is_matrix(form, many, width) or not _is_matrix(right, width, width):
        return False
    if abs(determinant(left)) != 1 or abs(determinant(right)) != 1:
        return False
    return _is_diagonal(form) and times_matrix(times_matrix(left, matrix), right) == form


def solve(matrix, target):
    """Return a solution of the equations of the rows, or an obstacle against all solutions."""
    _check_matrix(matrix)
    _check_target(matrix, target)
    told = Reduction(matrix)
    entries = told.diagonal_entries()
    coordinates = [0] * len(matrix[0])
    for at, weights in enumerate(told.left):
        worth = times_row(weights, target)
        divisor = entries[at] if at < len(entries) else 0
        if divisor == 0 and worth != 0:
            # The weights make 0 of each column, so any number that does not divide their sum over the target will do.
            return "obstacle", tuple(weights), abs(worth) + 1
        if divisor != 0 and worth % divisor != 0:
            return "obstacle", tuple(weights), divisor
        if divisor != 0:
            coordinates[at] = worth // divisor
    return "solution", tuple([times_row(row, coordinates) for row in told.right])


def shows_answer(matrix, target, value):
    """Tell whether any value is a solution or an obstacle, as solve returns it."""
    _check_matrix(matrix)
    _check_target(matrix, target)
    if is_tuple_of(value, 2) and value[0] == "solution":
        fits = _is_row(value[1], len(matrix[0]))
        return fits and all([times_row(row, value[1]) == worth for row, worth in zip(matrix, target)])
    if not is_tuple_of(value, 3) or value[0] != "obstacle":
        return False
    weights, divisor = value[1], value[2]
    if not _is_row(weights, len(matrix)) or type(divisor) is not int or divisor < 2:
        return False
    sums = [times_row(weights, column) for column in list(zip(*matrix))]
    return all([total % divisor == 0 for total in sums]) and times_row(weights, target) % divisor != 0


def _check_matrix(value):
    if type(value) is not tuple or not 1 <= len(value) <= MOST_ROWS:
        raise BadMatrix(None)
    for index, row in enumerate(value):
        if type(row) is not tuple or not 1 <= len(row) <= MOST_ROWS or len(row) != len(value[0]):
            raise BadMatrix(index)
        if not _are_entries(row):
            raise BadMatrix(index)


def _check_target(matrix, value):
    if not is_tuple_of(value, len(matrix)) or not _are_entries(value):
        raise BadTarget("not a tuple of integers from -1000000 to 1000000, one for each row")


def _are_entries(row):
    return all([is_between(entry, -GREATEST_ENTRY, GREATEST_ENTRY) for entry in row])


def _is_row(value, size):
    """Tell whether a value is a tuple of so many integers of any size."""
    return is_tuple_of(value, size) and all([type(entry) is int for entry in value])


def _is_matrix(value, many, width):
    """Tell whether a value is a tuple of so many rows of so many integers of any size."""
    return is_tuple_of(value, many) and all([_is_row(row, width) for row in value])


def _is_diagonal(form):
    """Tell whether a matrix has what a diagonal form has."""
    if any([entry != 0 for i, row in enumerate(form) for j, entry in enumerate(row) if i != j]):
        return False
    entries = [row[at] for at, row in enumerate(form) if at < len(row)]
    if any([entry < 0 for entry in entries]):
        return False
    pairs = list(zip(entries, entries[1:]))
    return all([after == 0 if entry == 0 else after % entry == 0 for entry, after in pairs])


def _frozen(rows):
    return tuple([tuple(row) for row in rows])
