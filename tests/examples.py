"""The examples of the document's interface, and a way to run them."""

import ast


def run(case, text):
    """Run an example; each line behind >>> that is no assignment has its answer on the line behind it."""
    lines = text.strip().splitlines()
    names = {}
    while lines:
        line = lines.pop(0)
        case.assertTrue(line.startswith(">>> "), line)
        source = line[4:]
        if not lines or lines[0].startswith(">>> "):
            exec(source, names)
            continue
        expected = lines.pop(0)
        if expected.startswith("raises "):
            check_raises(case, source, expected[len("raises "):], names)
        else:
            value = eval(source, names)
            case.assertEqual(repr(value), repr(ast.literal_eval(expected)), source)


def check_raises(case, source, told, names):
    """Check that a line raises the error that is told, with its fields."""
    kind, fields = told_error(told)
    try:
        value = eval(source, names)
    except ValueError as error:
        case.assertEqual(type(error).__name__, kind, source)
        case.assertEqual(list(vars(error).values()), fields, source)
    else:
        case.fail(f"{source} returned {value!r}")


def told_error(told):
    """The name and the fields of an error, from a text such as InvalidText(place=2) or BadPrime."""
    call = ast.parse(told, mode="eval").body
    if isinstance(call, ast.Name):
        return call.id, []
    values = call.args + [word.value for word in call.keywords]
    return call.func.id, [ast.literal_eval(value) for value in values]
