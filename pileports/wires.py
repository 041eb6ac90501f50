"""Wires: how the ways of a word depend on the size of the pile."""

from pileports.courses import closed_ends, sum_of, ways_of
from pileports.errors import NoShift, Shifted
from pileports.numbers import least_multiple
from pileports.steady import form_of
from pileports.ways import order


def families(word):
    """Return, for each remainder, the ascending list of the triples (a, b, turned) of its ways."""
    form = form_of(word)
    if form.turned or form.shift == 0:
        raise NoShift()
    return [family(form.parts, remainder) for remainder in range(abs(form.shift))]


def family(parts, remainder):
    """Return the ascending list of the triples (a, b, turned) for the sizes with one remainder."""
    above, below = closed_ends(parts)
    # With the quotient 1, each card that enters the middle from an end takes at least one place there.
    size = above + below + abs(parts[1]) + remainder
    found = []
    for pieces in ways_of(parts, size, above, below):
        length, turned = sum_of(pieces)
        # Each pass through the middle is one piece, and it has one more place for each one of the quotient.
        passes = len([piece for piece in pieces if above <= piece[0] < size - below])
        found.append((length - passes, passes, turned))
    return sorted(found)


def steady_order(word):
    """Return the least positive number of rounds that brings back the cards of every pile."""
    form = form_of(word)
    if not form.turned and form.shift != 0:
        raise Shifted()
    # From twice the reach on, the ways at the ends are the same, and one more card makes the middle odd or even.
    orders = [order(word, size) for size in range(2 * word.reach + 2)]
    return least_multiple(*orders)
