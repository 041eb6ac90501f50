"""Courses: the play of a word at one size, as the parts of a form, and the ways on which it leads the cards.

A way is a list of pieces (first, step, count, turned). The cards of its places take count steps of one width, and
are turned over, if at all, on leaving the last place of the piece.
"""

from pileports.steady import form_of
from pileports.tables import place_image


def course_of(word, size):
    """Return the parts of a form that is the same play as a word at a size."""
    # From twice the reach on, the word is the play of its form.
    if size >= 2 * word.reach:
        return form_of(word).parts
    return (False, 0, tuple([("top", place, turned) for place, turned in word.play(size)]), ())


def pieces_of(course, size, place):
    """Return the pieces of the way of a place."""
    piece, goal = run_from(course, size, place)
    pieces = [piece]
    while goal != place:
        piece, behind = run_from(course, size, goal)
        index = index_in(piece, place)
        if index is not None:
            # The way comes back to its first place before this run has reached a table.
            pieces.append((piece[0], piece[1], index, False))
            return pieces
        pieces.append(piece)
        goal = behind
    return pieces


def run_from(course, size, first):
    """Return the longest piece that begins at a place, and the place to which it leads."""
    hops = ruled_hops(course, size, first)
    step = course[1] if hops > 0 else 1
    goal, turned = place_image(course, size, first + step * hops)
    return ((first, step, hops + 1, turned), goal)


def ruled_hops(course, size, place):
    """Return how many times a card is shifted from a place on before it lies at a place of a table."""
    turned, shift, top, bottom = course
    above = place - len(top)
    below = size - 1 - len(bottom) - place
    if turned or shift == 0 or above < 0 or below < 0:
        return 0
    return below // shift + 1 if shift > 0 else above // -shift + 1


def index_in(piece, place):
    """Return the index of a place in a piece, or None if it is not there."""
    first, step, count, turned = piece
    index = (place - first) // step
    if 0 <= index < count and first + step * index == place:
        return index
    return None


def sum_of(pieces):
    """Return the pair (length, turned) of a way."""
    length = sum([count for first, step, count, turned in pieces])
    turns = sum([1 for first, step, count, turned in pieces if turned])
    return (length, turns % 2 == 1)


def place_after(course, size, place, rounds):
    """Return the pair (place, turned) for the card that starts at a place, after any number of rounds."""
    pieces = pieces_of(course, size, place)
    length, odd = sum_of(pieces)
    times, left = divmod(rounds, length)
    place, turned = place_along(pieces, left)
    return (place, turned != (odd and times % 2 == 1))


def place_along(pieces, rounds):
    """Return the pair (place, turned) after fewer rounds than the way is long."""
    odd = False
    at = 0
    while rounds >= pieces[at][2]:
        rounds -= pieces[at][2]
        odd = odd != pieces[at][3]
        at += 1
    return (pieces[at][0] + pieces[at][1] * rounds, odd)


def place_through(plays, size, place):
    """Return the pair (place, turned) for a card after pairs (course, rounds), one after another."""
    odd = False
    for course, rounds in plays:
        place, turned = place_after(course, size, place, rounds)
        odd = odd != turned
    return (place, odd)


def closed_ends(course):
    """Return the pair (above, below): so many places of both ends keep all their ways among themselves.

    Only the ways of a form that is shifted, but not turned, leave the ends; they come back to the tables. In a course
    there are never more such places than cards: neither number is greater than the reach of the word.
    """
    turned, shift, top, bottom = course
    if not turned:
        return (len(top), len(bottom))
    # A turned form sends all places of the top from some depth on to those of the bottom from another depth on.
    above = max(len(top), len(bottom) + shift)
    return (above, above - shift)


def counted_ways(course, size):
    """Return the dict from the pairs (length, turned) to the numbers of such ways."""
    above, below = closed_ends(course)
    counted = middle_ways(course, size - above - below)
    for pieces in ways_of(course, size, above, below):
        kind = sum_of(pieces)
        counted[kind] = counted.get(kind, 0) + 1
    return counted


def ways_of(course, size, above, below):
    """Return the list of the ways of so many places of both ends, which hold all tables, each way once."""
    ways = []
    seen = {}
    for place in list(range(above)) + list(range(size - below, size)):
        if place not in seen:
            pieces = pieces_of(course, size, place)
            ways.append(pieces)
            # Each place of a table is the last one of a piece. A way without such places has pieces of one place.
            for first, step, count, turned in pieces:
                seen[first + step * (count - 1)] = True
    return ways


def middle_ways(course, places):
    """Return the dict of counted_ways for the ways that no place of the closed ends is on."""
    turned, shift = course[0], course[1]
    if turned:
        counted = {(2, False): places // 2, (1, True): places % 2}
    elif shift == 0:
        counted = {(1, False): places}
    else:
        counted = {}
    return {kind: many for kind, many in counted.items() if many > 0}
