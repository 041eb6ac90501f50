"""Ways: the places that a card comes to before it lies again where it started."""

from pileports.courses import counted_ways, course_of, pieces_of, sum_of
from pileports.errors import TooGreat
from pileports.numbers import least_multiple
from pileports.places import MOST_LISTED, check_place, check_size
from pileports.tables import place_image


def way(word, size, place):
    """Return the pieces (first, step, count, turned) of the way of a place."""
    check_size(size)
    check_place(place, size)
    return pieces_of(course_of(word, size), size, place)


def way_length(word, size, place):
    """Return the pair (length, turned) of the way of a place."""
    return sum_of(way(word, size, place))


def walk(word, size, place, *, many=10):
    """Yield the pairs (place, turned) of the card that starts at a place, after 0, 1, 2 and so on rounds."""
    check_size(size)
    check_place(place, size)
    if many < 0 or many > MOST_LISTED:
        raise TooGreat(MOST_LISTED)
    course = course_of(word, size)
    odd = False
    for done in range(many):
        yield (place, odd)
        place, turned = place_image(course, size, place)
        odd = odd != turned


def census(word, size):
    """Return the ascending list of the triples (length, turned, number of such ways)."""
    check_size(size)
    counted = counted_ways(course_of(word, size), size)
    return sorted([(length, turned, many) for (length, turned), many in counted.items()])


def order(word, size):
    """Return the least positive number of rounds that brings each card back, with the same face."""
    lengths = [2 * length if turned else length for length, turned, many in census(word, size)]
    return least_multiple(*lengths)


def is_even(word, size):
    """Return whether the word is a product of an even number of exchanges of two places."""
    # A way is a product of as many exchanges as it has places, less one.
    exchanges = sum([(length - 1) * many for length, turned, many in census(word, size)])
    return exchanges % 2 == 0
