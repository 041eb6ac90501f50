"""Places of a pile, and end places: places that are counted from the top or from the bottom."""

from pileports.errors import BadPlace, BadSize, BadText, NoPlace, TooGreat
from pileports.numbers import is_number, read_number

MOST_DEPTH = 399
MOST_CARDS = 10 ** 30
MOST_LISTED = 1000

ENDS = {"t": "top", "b": "bottom"}


def is_end(value):
    """Return whether a value is the name of an end of a pile."""
    return value == "top" or value == "bottom"


def is_end_place(value):
    """Return whether a value is an end place, whatever its depth."""
    if not isinstance(value, tuple) or len(value) != 2:
        return False
    return is_end(value[0]) and is_number(value[1]) and value[1] >= 0


def check_end_place(value):
    """Raise BadPlace if a value is not an end place."""
    if not is_end_place(value):
        raise BadPlace(value)


def check_size(size):
    """Raise BadSize if a pile cannot have this size."""
    if size < 0 or size > MOST_CARDS:
        raise BadSize(size)


def check_listed(size):
    """Raise TooGreat if a pile has more cards than are listed one by one."""
    if size > MOST_LISTED:
        raise TooGreat(MOST_LISTED)


def check_place(place, size):
    """Raise NoPlace if a pile of this size does not have the place."""
    if place < 0 or place >= size:
        raise NoPlace(place)


def resolve(end_place, size):
    """Return the place of an end place in a pile."""
    check_end_place(end_place)
    check_size(size)
    end, depth = end_place
    if depth >= size:
        raise NoPlace(end_place)
    return depth if end == "top" else size - 1 - depth


def end_text(end):
    """Return the letter that stands for an end in a text."""
    return "t" if end == "top" else "b"


def read_end(text):
    """Return the end that a letter stands for, or None for any other text."""
    return ENDS.get(text)


def place_text(end_place):
    """Return the text of an end place."""
    check_end_place(end_place)
    end, depth = end_place
    return f"{end_text(end)}{depth}"


def parse_place(text):
    """Return the end place of a text."""
    end_place = (read_end(text[:1]), read_number(text[1:]))
    if not is_end_place(end_place):
        raise BadText(0)
    return end_place
