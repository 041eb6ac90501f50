"""The moves: what they are, their texts, and where they take a card."""

from pileports.errors import BadMove, BadText
from pileports.numbers import is_number, read_number
from pileports.places import MOST_DEPTH
from pileports.places import check_place, check_size, end_text, is_end, is_end_place
from pileports.places import parse_place, place_text, read_end, resolve

MOST_BLOCK = 400

# What stands behind the first item of each move: "place" is an end place, "end" an end,
# "block" a number of cards, and "signed" a number of cards that may be negative.
SHAPES = {
    "swap": ("place", "place"),
    "carry": ("place", "place"),
    "cut": ("signed",),
    "turn": ("end", "block"),
    "over": (),
    "face": ("place",),
}


def is_move(move):
    """Return whether a tuple is a move."""
    if not isinstance(move, tuple) or len(move) == 0 or not isinstance(move[0], str):
        return False
    shape = SHAPES.get(move[0])
    if shape is None or len(move) != len(shape) + 1:
        return False
    for part, item in zip(shape, move[1:]):
        if not fits(part, item):
            return False
    return True


def fits(part, item):
    """Return whether an item of a move is of this kind and within its bounds."""
    if part == "place":
        return is_end_place(item) and item[1] <= MOST_DEPTH
    if part == "end":
        return is_end(item)
    least = -MOST_BLOCK if part == "signed" else 0
    return is_number(item) and least <= item <= MOST_BLOCK


def check_move(move):
    """Raise BadMove if a value is not a move."""
    if not is_move(move):
        raise BadMove(0)


def reach(move):
    """Return the number of cards that a pile needs for the move to change it."""
    check_move(move)
    return cards_needed(move)


def cards_needed(move):
    """Return the reach of what is known to be a move."""
    name = move[0]
    if name == "over":
        return 0
    if name == "cut":
        return abs(move[1])
    if name == "turn":
        return move[2]
    return max([depth for end, depth in move[1:]]) + 1


def move_text(move):
    """Return the text of a move."""
    check_move(move)
    words = [move[0]]
    for part, item in zip(SHAPES[move[0]], move[1:]):
        words.append(item_text(part, item))
    return " ".join(words)


def item_text(part, item):
    """Return the text of an item of a move."""
    if part == "place":
        return place_text(item)
    if part == "end":
        return end_text(item)
    return str(item)


def parse_move(text):
    """Return the move of a text."""
    words = text.split(" ")
    shape = SHAPES.get(words[0])
    if shape is None or len(words) != len(shape) + 1:
        raise BadText(0)
    items = [words[0]]
    for part, word in zip(shape, words[1:]):
        items.append(read_item(part, word))
    move = tuple(items)
    # An item that could not be read is None here, which no move has.
    if not is_move(move):
        raise BadText(0)
    return move


def read_item(part, word):
    """Return the item of a move that a word stands for; None or BadText for any other word."""
    if part == "place":
        return parse_place(word)
    if part == "end":
        return read_end(word)
    return read_number(word)


def undoing(move):
    """Return the move that undoes a move at every size."""
    check_move(move)
    if move[0] == "carry":
        return ("carry", move[2], move[1])
    if move[0] == "cut":
        return ("cut", -move[1])
    return move


def image(move, size, place):
    """Return the pair (place, turned): where a move takes the card at a place."""
    check_move(move)
    check_size(size)
    check_place(place, size)
    return moved(move, size, place)


def moved(move, size, place):
    """Return the image of a place for a move, a size and a place that are known to be right."""
    above = 0
    for first, beyond, turned in blocks(move, size):
        if first <= place < beyond:
            break
        above += beyond - first
    if turned:
        return (above + beyond - 1 - place, True)
    return (above + place - first, False)


def all_images(moves, size):
    """Return the list of the images of all places when moves are played one after another."""
    cards = [(card, False) for card in range(size)]
    for move in moves:
        cards = laid_anew(move, cards)
    images = list(cards)
    for place, (card, turned) in enumerate(cards):
        images[card] = (place, turned)
    return images


def laid_anew(move, cards):
    """Return the cards of a pile, pairs (card, turned), in the order in which a move puts them."""
    laid = []
    for first, beyond, turned in blocks(move, len(cards)):
        block = cards[first:beyond]
        laid.extend(turned_over(block) if turned else block)
    return laid


def turned_over(cards):
    """Return a block of cards, pairs (card, turned), as it lies when it is turned over."""
    return [(card, not turned) for card, turned in reversed(cards)]


def blocks(move, size):
    """Return the blocks (first, beyond, turned) of a pile in the order in which a move puts them.

    A block holds the places from first on that lie before beyond; some blocks are empty.
    """
    if size < cards_needed(move):
        return [(0, size, False)]
    action = BLOCKS[move[0]]
    return action(move, size)


def swap_blocks(move, size):
    """Return the blocks of a swap."""
    low, high = sorted([resolve(move[1], size), resolve(move[2], size)])
    if low == high:
        return [(0, size, False)]
    return [
        (0, low, False),
        (high, high + 1, False),
        (low + 1, high, False),
        (low, low + 1, False),
        (high + 1, size, False),
    ]


def carry_blocks(move, size):
    """Return the blocks of a carry."""
    start = resolve(move[1], size)
    goal = resolve(move[2], size)
    card = (start, start + 1, False)
    if start <= goal:
        return [(0, start, False), (start + 1, goal + 1, False), card, (goal + 1, size, False)]
    return [(0, goal, False), card, (goal, start, False), (start + 1, size, False)]


def cut_blocks(move, size):
    """Return the blocks of a cut."""
    above = move[1] if move[1] >= 0 else size + move[1]
    return [(above, size, False), (0, above, False)]


def turn_blocks(move, size):
    """Return the blocks of a turn."""
    if move[1] == "top":
        return [(0, move[2], True), (move[2], size, False)]
    above = size - move[2]
    return [(0, above, False), (above, size, True)]


def over_blocks(move, size):
    """Return the block of a pile that is turned over as a whole."""
    return [(0, size, True)]


def face_blocks(move, size):
    """Return the blocks of a card that is turned over where it lies."""
    place = resolve(move[1], size)
    return [(0, place, False), (place, place + 1, True), (place + 1, size, False)]


BLOCKS = {
    "swap": swap_blocks,
    "carry": carry_blocks,
    "cut": cut_blocks,
    "turn": turn_blocks,
    "over": over_blocks,
    "face": face_blocks,
}
