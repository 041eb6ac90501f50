"""Wishes: the fewest rounds that bring several cards to given places."""

from pileports.courses import course_of, index_in, pieces_of, sum_of
from pileports.numbers import common_rounds
from pileports.places import check_place, check_size


def meeting(word, size, place, goal, *, turned=None):
    """Return the pair (r, m) of all rounds that meet a want, or None if it is never met."""
    check_size(size)
    check_want((place, goal, turned), size)
    return want_met(course_of(word, size), size, (place, goal, turned))


def wish(word, size, wants):
    """Return ("rounds", r), or which wants are in the way: ("never", i) or ("clash", i, j)."""
    check_size(size)
    for want in wants:
        check_want(want, size)
    course = course_of(word, size)
    met = [want_met(course, size, want) for want in wants]
    for index, pair in enumerate(met):
        if pair is None:
            return ("never", index)
    clash = first_clash(met)
    if clash is not None:
        return ("clash", *clash)
    # Remainders that are possible two by two are possible all at once.
    rounds, modulus = common_rounds(met)
    return ("rounds", rounds)


def check_want(want, size):
    """Raise NoPlace if a pile does not have the place or the goal of a want."""
    place, goal, turned = want
    check_place(place, size)
    check_place(goal, size)


def want_met(course, size, want):
    """Return the pair (r, m) of all rounds that meet a want, or None."""
    place, goal, turned = want
    pieces = pieces_of(course, size, place)
    found = met_first(pieces, goal)
    if found is None:
        return None
    rounds, odd = found
    length, way_turned = sum_of(pieces)
    if turned is None:
        return (rounds, length)
    if not way_turned:
        return (rounds, length) if odd == turned else None
    # The second time round, the card comes to the goal with its other face.
    return (rounds if odd == turned else rounds + length, 2 * length)


def met_first(pieces, goal):
    """Return the pair (rounds, turned) of the first time that a card comes to a goal, or None."""
    rounds = 0
    odd = False
    for piece in pieces:
        index = index_in(piece, goal)
        if index is not None:
            return (rounds + index, odd)
        rounds += piece[2]
        odd = odd != piece[3]
    return None


def first_clash(remainders):
    """Return the first pair of indexes, ascending, of two remainders that no number has both, or None."""
    for one, pair in enumerate(remainders):
        for other in range(one + 1, len(remainders)):
            if common_rounds([pair, remainders[other]]) is None:
                return (one, other)
    return None
