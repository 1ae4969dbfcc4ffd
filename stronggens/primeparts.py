"""Sylow subgroups, without checks."""

from stronggens.arithmetic import greatest_power, is_power
from stronggens.quick import conjugated, period
from stronggens.spans import Span
from stronggens.tours import reached


def sylow_span(degree, rows, prime):
    """Return a Sylow subgroup of the group with the elements told."""
    size = greatest_power(prime, len(rows))
    candidates = [p for p in rows if is_power(period(p), prime)]
    span = Span(degree)
    while len(span.rows) < size:
        # What is less than a Sylow subgroup is normal in one that is greater (L. Sylow, 1872).
        fitting = [p for p in candidates if not span.holds(p) and normalizes(span, p)]
        span.take(fitting[0])
    return span


def normalizes(span, g):
    """Tell whether the conjugates of a subgroup's elements by an element are the subgroup's elements."""
    return all(conjugated(p, g) in span.known for p in span.generators)


def conjugate_lists(generators, rows):
    """Return the ascending list of the element lists of the conjugates of a subgroup."""
    return sorted(reached(rows, generators, _conjugated_rows))


def _conjugated_rows(rows, g):
    return tuple(sorted([conjugated(p, g) for p in rows]))
