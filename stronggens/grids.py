"""Tables without checks: where words lead, how rows are numbered, and what is wrong with them."""

from stronggens.checks import MOST_GENERATORS, is_between, is_row, is_tuple_of
from stronggens.enumerations import MOST_ROWS, by_scans
from stronggens.errors import BadTable
from stronggens.letters import columns_of, letter_at


def led(rows, row, word):
    """Return the row to which a word leads from a row, None if some entry on the way is None."""
    for column in columns_of(word):
        if row is not None:
            row = rows[row][column]
    return row


def found_rows(rows):
    """Return a dict of the rows that are reached from row 0, in the order in which they are found, with least words."""
    words = {0: ()}
    queue = [0]
    at = 0
    while at < len(queue):
        row = queue[at]
        for column, target in enumerate(rows[row]):
            if target is not None and target not in words:
                words[target] = words[row] + (letter_at(column),)
                queue.append(target)
        at += 1
    return words


def numbered(rows):
    """Return the table of the rows that are reached from row 0, numbered in the order in which they appear."""
    places = {None: None}
    for number, row in enumerate(found_rows(rows)):
        places[row] = number
    return tuple([tuple([places[target] for target in rows[row]]) for row in places if row is not None])


def scanned(presentation, words):
    """Return the coset table by scans."""
    return numbered(by_scans(presentation, words).rows)


def flaw_of(many, relators, words, value):
    """Return the first thing that keeps a value from being a table of a subgroup that contains the words."""
    if not _is_shaped(many, value):
        return ("shape",)
    for row, targets in enumerate(value):
        for column, target in enumerate(targets):
            if value[target][column ^ 1] != row:
                return "letter", row, letter_at(column)
    for row in range(len(value)):
        for index, relator in enumerate(relators):
            if led(value, row, relator) != row:
                return "relator", row, index
    for index, word in enumerate(words):
        if led(value, 0, word) != 0:
            return "word", index
    found = found_rows(value)
    apart = [row for row in range(len(value)) if row not in found]
    return ("apart", apart[0]) if apart else None


def check_table(value):
    """Raise BadTable for a value that is not a table of any number of generators; return that number."""
    many = _likely_many(value)
    if flaw_of(many, (), (), value) is not None:
        raise BadTable("not a table")
    return many


def _is_shaped(many, value):
    if not is_row(value, MOST_ROWS) or value == () or not all(is_tuple_of(row, 2 * many) for row in value):
        return False
    return all(is_between(target, 0, len(value) - 1) for row in value for target in row)


def _likely_many(value):
    """Return the number of generators that a table would have, by its first row."""
    if type(value) is tuple and value != () and type(value[0]) is tuple:
        return min(len(value[0]) // 2, MOST_GENERATORS)
    return 0
