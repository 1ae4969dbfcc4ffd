"""Values of words and programs over the generators of a group."""

from stronggens.checks import check_group, check_program, check_word
from stronggens.errors import TooMany
from stronggens.quick import compose, invert, unit

MOST_EXPANDED = 2000


def word_value(group, word):
    """Return the product of the values of a word's letters from left to right."""
    check_group(group)
    degree, generators = group
    check_word(len(generators), word)
    made = unit(degree)
    for letter in word:
        p = generators[abs(letter) - 1]
        made = compose(made, p if letter > 0 else invert(p))
    return made


def run_program(group, program):
    """Return the value of the last step of a program, the identity for the empty one."""
    check_group(group)
    degree, generators = group
    check_program(len(generators), program)
    values = []
    for step in program:
        if step[0] == "gen":
            values.append(generators[step[1]])
        elif step[0] == "inv":
            values.append(invert(values[step[1]]))
        else:
            values.append(compose(values[step[1]], values[step[2]]))
    return values[-1] if values else unit(degree)


def expand(group, program):
    """Return the tuple of letters that a program stands for; nothing is cancelled."""
    check_group(group)
    check_program(len(group[1]), program)
    if not program:
        return ()
    if _expanded_size(program) > MOST_EXPANDED:
        raise TooMany(MOST_EXPANDED)
    needed = needed_steps(program)
    # A step that the last one does not need may be far too long to write out.
    letters = {}
    for place in needed:
        letters[place] = _step_letters(program[place], letters)
    return letters[len(program) - 1]


def spelled(letters):
    """Return a program whose value is the product of the values of letters from left to right."""
    steps = []
    places = {}
    made = None
    for letter in letters:
        for sign in (abs(letter), letter):
            if sign not in places:
                places[sign] = len(steps)
                steps.append(("gen", sign - 1) if sign > 0 else ("inv", places[-sign]))
        if made is None:
            made = places[letter]
        else:
            steps.append(("mul", made, places[letter]))
            made = len(steps) - 1
    return tuple(steps)


def needed_steps(program):
    """Return the ascending list of the places of the steps from which the last step is made."""
    needed = set()
    needed.add(len(program) - 1)
    for place in reversed(range(len(program))):
        if place in needed and program[place][0] != "gen":
            for operand in program[place][1:]:
                needed.add(operand)
    return sorted(needed)


def _expanded_size(program):
    """Return the number of letters that the last step stands for."""
    sizes = []
    for step in program:
        if step[0] == "gen":
            sizes.append(1)
        else:
            sizes.append(sum([sizes[operand] for operand in step[1:]]))
    return sizes[-1]


def _step_letters(step, letters):
    """Return the letters of a step, by those of the steps ahead of it."""
    if step[0] == "gen":
        return (step[1] + 1,)
    if step[0] == "inv":
        return tuple([-letter for letter in reversed(letters[step[1]])])
    return letters[step[1]] + letters[step[2]]
