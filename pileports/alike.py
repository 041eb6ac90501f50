"""Alike words: the sizes at which two words are the same play, and where they differ."""

from pileports.places import check_size
from pileports.steady import form_of


def alike_sizes(one, other):
    """Return ("from", N, sizes) for words with equal forms, ("only", sizes) for other words."""
    # From twice the reach on, both words go by their forms. The tables of forms that differ send their cards to
    # depths that do not meet in such a pile, so one more card than that shows each difference.
    bound = 2 * max(one.reach, other.reach) + 1
    sizes = [size for size in range(bound) if one.play(size) == other.play(size)]
    if form_of(one) != form_of(other):
        return ("only", sizes)
    while len(sizes) > 0 and sizes[-1] == bound - 1:
        bound = sizes.pop()
    return ("from", bound, sizes)


def first_difference(one, other, size):
    """Return (place, image, image) for the least place that two words treat differently, or None."""
    check_size(size)
    for place in telling_places(max(one.reach, other.reach), size):
        image = one.image(size, place)
        other_image = other.image(size, place)
        if image != other_image:
            return (place, image, other_image)
    return None


def telling_places(reach, size):
    """Return the places, ascending, of which one differs if two words of at most this reach differ at all."""
    if size <= 2 * reach:
        return list(range(size))
    # All places that are farther than the reach from both ends go by the same rule, so the first one tells for all.
    return list(range(reach + 1)) + list(range(size - reach, size))
