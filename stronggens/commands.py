"""The commands of a session, line by line and word by word."""

from stronggens.checks import MOST_DEGREE, MOST_GENERATORS
from stronggens.cycletext import read
from stronggens.errors import InvalidCommand, InvalidText, TooMany
from stronggens.forests import few
from stronggens.members import order_of
from stronggens.searches import common_generators
from stronggens.tours import fixing, orbit_of
from stronggens.towers import tower_of

LETTERS = "abcdefghijklmnopqrstuvwxyz"
MOST_OF_A_NAME = 8
MOST_MET = 2000


class Reader:
    """The words of a line, one behind the other; head is the place of the last word, tail the one behind it."""

    def __init__(self, number, text):
        self.number = number
        self.text = text
        self.head = 0
        self.tail = 0

    def next_word(self):
        """Return the next word, the empty text if there is none."""
        self.head = self.tail
        while self.head < len(self.text) and self.text[self.head] == " ":
            self.head += 1
        self.tail = self.head
        while self.tail < len(self.text) and self.text[self.tail] != " ":
            self.tail += 1
        return self.text[self.head:self.tail]

    def check_word(self, is_allowed):
        """Raise InvalidCommand with the column of the last word unless it is allowed."""
        if not is_allowed:
            raise InvalidCommand(self.number, self.head + 1)

    def next_name(self):
        """Return the next word, which must be a name."""
        word = self.next_word()
        self.check_word(is_name(word))
        return word

    def next_group(self, groups):
        """Return the group of the next word, which must be a name that stands for one."""
        word = self.next_word()
        self.check_word(word in groups)
        return groups[word]

    def next_number(self, low, high):
        """Return the next word as an integer, which must be one from low to high."""
        word = self.next_word()
        found = [number for number in range(low, high + 1) if str(number) == word]
        self.check_word(len(found) == 1)
        return found[0]

    def finish(self):
        """Raise InvalidCommand if there is one more word."""
        self.check_word(self.next_word() == "")

    def permutation(self, degree, start, end):
        """Return the permutation that the text from start to end names."""
        try:
            return read(degree, self.text[start:end])
        except InvalidText as error:
            raise InvalidCommand(self.number, start + error.place + 1)


def is_name(value):
    """Tell whether a value is a text of 1 to 8 of the letters a to z."""
    if type(value) is not str or not 1 <= len(value) <= MOST_OF_A_NAME:
        return False
    return all(letter in LETTERS for letter in value)


def run_text(groups, text):
    """Run the commands of a text, and return their answers; groups is the dict of the groups of names."""
    answers = []
    for number, line in enumerate(text.split("\n"), start=1):
        if line.strip(" ") != "":
            answers.append(_run_line(groups, Reader(number, line)))
    return answers


def _run_line(groups, reader):
    word = reader.next_word()
    if word == "let":
        return _let(groups, reader)
    if word == "order":
        return _order(groups, reader)
    if word == "member":
        return _member(groups, reader)
    if word == "orbit":
        return _orbit(groups, reader)
    if word == "fix":
        return _fix(groups, reader)
    if word in ("meet", "join"):
        return _combine(groups, reader, word)
    reader.check_word(word == "drop")
    return _drop(groups, reader)


def _let(groups, reader):
    name = reader.next_name()
    degree = reader.next_number(1, MOST_DEGREE)
    groups[name] = (degree, tuple(_generators(reader, degree)))
    return None


def _generators(reader, degree):
    """Return the permutations that the texts behind the last word name."""
    start = reader.tail
    rest = reader.text[start:]
    if rest.strip(" ") == "":
        return []
    texts = rest.split(",")
    if len(texts) > MOST_GENERATORS:
        raise InvalidCommand(reader.number, start + len(",".join(texts[:MOST_GENERATORS])) + 1)
    found = []
    for text in texts:
        found.append(reader.permutation(degree, start, start + len(text)))
        start = start + len(text) + 1
    return found


def _order(groups, reader):
    group = reader.next_group(groups)
    reader.finish()
    return order_of(group)


def _member(groups, reader):
    group = reader.next_group(groups)
    return tower_of(group).holds(reader.permutation(group[0], reader.tail, len(reader.text)))


def _orbit(groups, reader):
    group = reader.next_group(groups)
    point = reader.next_number(0, group[0] - 1)
    reader.finish()
    return orbit_of(group[1], point)


def _fix(groups, reader):
    group = reader.next_group(groups)
    point = reader.next_number(0, group[0] - 1)
    name = reader.next_name()
    reader.finish()
    return _renewed(groups, name, group[0], fixing(group[0], group[1], point))


def _combine(groups, reader, word):
    """Run the command meet or join."""
    group = reader.next_group(groups)
    other = reader.next_group(groups)
    reader.check_word(group[0] == other[0])
    name = reader.next_name()
    reader.finish()
    if word == "join":
        return _renewed(groups, name, group[0], few([*group[1], *other[1]]))
    if order_of(group) > MOST_MET and order_of(other) > MOST_MET:
        raise TooMany(MOST_MET)
    return _renewed(groups, name, group[0], common_generators(group, other))


def _drop(groups, reader):
    name = reader.next_word()
    reader.check_word(name in groups)
    reader.finish()
    del groups[name]
    return None


def _renewed(groups, name, degree, generators):
    """Let a name stand for a group, and return its number of elements."""
    groups[name] = (degree, tuple(generators))
    return order_of(groups[name])
