"""The parts of forms: tuples (turned, shift, top, bottom) whose tables are tuples of entries.

The parts of a form are normal: no table ends with an entry that the rules behind the tables give as well.
"""

from pileports.errors import TooWide
from pileports.moves import all_images, cards_needed


def ends_of(parts):
    """Return the pairs of an end and its table."""
    return (("top", parts[2]), ("bottom", parts[3]))


def check_width(parts, limit):
    """Raise TooWide if a table has more entries than a limit."""
    if max(len(parts[2]), len(parts[3])) > limit:
        raise TooWide(limit)


def ruled(turned, shift, end, depth):
    """Return the entry of an end place by the rules that hold behind the tables."""
    # Whatever the end, what arrives at the top goes down by the shift, and what arrives at the bottom goes up.
    if (end == "top") != turned:
        return ("top", depth + shift, turned)
    return ("bottom", depth - shift, turned)


def entry_at(parts, end, depth):
    """Return the entry to which a form sends an end place."""
    turned, shift, top, bottom = parts
    table = top if end == "top" else bottom
    if depth < len(table):
        return table[depth]
    return ruled(turned, shift, end, depth)


def is_form(parts):
    """Return whether each end place is reached from just one."""
    turned, shift, top, bottom = parts
    # The rules reach all depths of an end from this one on, so the tables have to reach those before it.
    first = {}
    for end, table in ends_of(parts):
        goal_end, depth, flipped = ruled(turned, shift, end, len(table))
        if depth < 0:
            return False
        first[goal_end] = depth
    # The tables have as many entries as there are such end places: if none is reached twice, each one is reached.
    reached = {}
    for end, depth, flipped in [*top, *bottom]:
        if end not in first or depth < 0 or depth >= first[end] or (end, depth) in reached:
            return False
        reached[(end, depth)] = True
    return True


def normal(turned, shift, top, bottom):
    """Return the normal parts of a form with these tables."""
    return (turned, shift, trimmed(turned, shift, "top", top), trimmed(turned, shift, "bottom", bottom))


def trimmed(turned, shift, end, table):
    """Return a table without the entries at its end that the rules give as well."""
    entries = list(table)
    while len(entries) > 0 and entries[-1] == ruled(turned, shift, end, len(entries) - 1):
        entries.pop()
    return tuple(entries)


def place_image(parts, size, place):
    """Return the image of a place in a pile that is not smaller than the least size."""
    depth = size - 1 - place
    if depth < len(parts[3]):
        goal_end, goal, flipped = parts[3][depth]
    else:
        goal_end, goal, flipped = entry_at(parts, "top", place)
    return (goal if goal_end == "top" else size - 1 - goal, flipped)


def product(one, other):
    """Return the parts of the form that sends each end place as one and then the other does."""
    turned = one[0] != other[0]
    shift = other[1] - one[1] if other[0] else other[1] + one[1]
    return normal(turned, shift, sent_on(one, other, "top"), sent_on(one, other, "bottom"))


def sent_on(one, other, end):
    """Return the table of an end in the product of two forms; it may not be normal."""
    goal_end, offset, flipped = ruled(one[0], one[1], end, 0)
    beyond = len(other[2] if goal_end == "top" else other[3])
    # From this depth on, both forms go by their rules.
    width = max(len(one[2] if end == "top" else one[3]), beyond - offset)
    entries = []
    for depth in range(width):
        middle_end, middle_depth, turned = entry_at(one, end, depth)
        last_end, last_depth, again = entry_at(other, middle_end, middle_depth)
        entries.append((last_end, last_depth, turned != again))
    return entries


def inverted(parts):
    """Return the parts of the form that sends each end place back."""
    turned, shift = parts[0], parts[1]
    back = shift if turned else -shift
    return normal(turned, back, sent_back(parts, "top"), sent_back(parts, "bottom"))


def sent_back(parts, goal_end):
    """Return the table of an end in the inverse of a form."""
    found = []
    for end, table in ends_of(parts):
        for depth, (to_end, to_depth, flipped) in enumerate(table):
            if to_end == goal_end:
                found.append((to_depth, (end, depth, flipped)))
    # The tables reach all depths of an end up to some one, so those that are found have no gaps.
    return [entry for to_depth, entry in sorted(found)]


def move_parts(move):
    """Return the parts of the form of a move."""
    width = cards_needed(move)
    # No card that the move names, or that makes room for it, leaves its half of such a pile unless it changes ends.
    half = 2 * width + 1
    images = all_images([move], 2 * half)
    goal, turned = images[width]
    shift = goal - (2 * half - 1 - width) if turned else goal - width
    top = [end_entry(image, half) for image in images[:width]]
    bottom = [end_entry(image, half) for image in reversed(images[2 * half - width:])]
    return normal(turned, shift, top, bottom)


def end_entry(image, half):
    """Return the entry of an image near the ends of a pile, given the size of one half of the pile."""
    place, turned = image
    if place < half:
        return ("top", place, turned)
    return ("bottom", 2 * half - 1 - place, turned)
