"""Spelling: from the parts of a form to moves that have this form."""

from pileports.tables import ends_of, entry_at, move_parts, product

MOST_SPELLED = 200


def spelled_moves(parts):
    """Return a list of moves whose form has these parts."""
    turned, shift = parts[0], parts[1]
    moves = []
    rest = parts
    # The rest is what is still to be done after the moves so far: it is the form behind the moves that undo them.
    if turned:
        moves.append(("over",))
        rest = product(move_parts(("over",)), rest)
    if shift != 0:
        moves.append(("cut", -shift))
        rest = product(move_parts(("cut", shift)), rest)
    return moves + exchanges(rest) + faces(rest)


def exchanges(parts):
    """Return the swaps that bring all cards to their places, for a form that is neither turned nor shifted."""
    moves = []
    done = {}
    for end, table in ends_of(parts):
        for depth in range(len(table)):
            if (end, depth) in done:
                continue
            # Each swap with the first place of a circle brings one card to where it goes, and the card that lay
            # there to the first place.
            first = (end, depth)
            here = next_place(parts, first)
            while here != first:
                moves.append(("swap", first, here))
                done[here] = True
                here = next_place(parts, here)
    return moves


def next_place(parts, end_place):
    """Return the end place to which a form sends an end place."""
    end, depth, turned = entry_at(parts, end_place[0], end_place[1])
    return (end, depth)


def faces(parts):
    """Return the moves that turn over the cards, where they lie at last, that a form turns over."""
    moves = []
    for end, table in ends_of(parts):
        for goal_end, goal_depth, turned in table:
            if turned:
                moves.append(("face", (goal_end, goal_depth)))
    return moves
