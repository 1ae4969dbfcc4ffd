"""Answers of presentations in groups: how many there are, how many generate the group, and all of them."""

from math import gcd

from stronggens.arithmetic import raised
from stronggens.checks import check_group, check_presentation
from stronggens.errors import TooMany
from stronggens.frames import Frame, part_of, trivial_part, widened
from stronggens.letters import cancelled
from stronggens.members import order_of
from stronggens.quick import period
from stronggens.towers import listed

MOST_TRIED = 250000
MOST_ANSWERS = 2000


def count_images(presentation, group):
    """Return the number of answers of a presentation in a group."""
    rows = _tried(presentation, group)
    return len(_answers(presentation, rows, _frame(presentation, rows)))


def count_onto(presentation, group):
    """Return the number of the answers that generate the group."""
    rows = _tried(presentation, group)
    frame = _frame(presentation, rows)
    answers = _answers(presentation, rows, frame)
    if presentation[0] == 0:
        return 1 if order_of(group) == 1 else 0
    if presentation[0] == 1:
        return len([told for told in answers if period(rows[told[0]]) == len(rows)])
    return _generating(frame, answers)


def list_images(presentation, group):
    """Return the ascending list of all answers."""
    rows = _tried(presentation, group)
    answers = _answers(presentation, rows, _frame(presentation, rows))
    if len(answers) > MOST_ANSWERS:
        raise TooMany(MOST_ANSWERS)
    return [tuple([rows[number] for number in told]) for told in answers]


def _tried(presentation, group):
    """Return the elements that may stand in an answer; none, of any group, if the presentation has no generators."""
    check_presentation(presentation)
    check_group(group)
    if raised(order_of(group), presentation[0]) > MOST_TRIED:
        raise TooMany(MOST_TRIED)
    return listed(group, MOST_TRIED) if presentation[0] > 0 else ()


def _frame(presentation, rows):
    """Return the frame of the elements; one generator alone needs no table of products, and may have many elements."""
    return Frame(rows) if presentation[0] > 1 else None


def _answers(presentation, rows, frame):
    """Return the ascending list of the answers, by the numbers of the elements."""
    many, relators = presentation
    words = [cancelled(relator) for relator in relators]
    found = [()]
    for letter in range(1, many + 1):
        fitting = _fitting(rows, words, letter)
        ending = [word for word in words if word and max([abs(sign) for sign in word]) == letter]
        mixed = [word for word in ending if min([abs(sign) for sign in word]) < letter]
        longer = [told + (number,) for told in found for number in fitting]
        found = [told for told in longer if all([_is_identity(frame, told, word) for word in mixed])]
    return found


def _fitting(rows, words, letter):
    """Return the numbers of the elements that satisfy the words which are powers of one letter."""
    exponent = 0
    for word in words:
        if all(abs(sign) == letter for sign in word):
            exponent = gcd(exponent, len(word))
    return [number for number, p in enumerate(rows) if exponent % period(p) == 0]


def _is_identity(frame, told, word):
    """Tell whether the value of a word is the identity if these elements are put in."""
    value = 0
    for letter in word:
        number = told[abs(letter) - 1]
        value = frame.table[value][number if letter > 0 else frame.inverses[number]]
    return value == 0


def _generating(frame, answers):
    """Return how many of the answers generate the group of the frame."""
    first = trivial_part()
    parts = {first.mask: first}
    cyclic = [part_of(frame, [number]).mask for number in range(len(frame.rows))]
    joins = {}
    many = 0
    for told in answers:
        mask = first.mask
        for number in told:
            pair = (mask, cyclic[number])
            if pair not in joins:
                wider = widened(frame, parts[mask], number)
                parts.setdefault(wider.mask, wider)
                joins[pair] = wider.mask
            mask = joins[pair]
        if len(parts[mask].numbers) == len(frame.rows):
            many += 1
    return many
