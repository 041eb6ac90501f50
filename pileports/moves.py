"""The moves: what they are, their texts, and where they take a card."""

from pileports.errors import BadMove, BadText
from pileports.numbers import is_number, read_number
from pileports.places import MOST_DEPTH
from pileports.places import check_place, check_size, end_text, is_end, is_end_place
from pileports.places import parse_place, place_text, read_end, resolve

MOST_BLOCK = 400

# What stands behind the first item of each move: "place" is an end place, "end" an end,
# "block" a number of cards, and "signed" a number of cards that may be negative.
SHAPES = {
    "swap": ("place", "place"),
    "carry": ("place", "place"),
    "cut": ("signed",),
    "turn": ("end", "block"),
    "over": (),
    "face": ("place",),
}


def is_move(move):
    """Return whether a tuple is a move."""
    if not isinstance(move, tuple) or len(move) == 0 or not isinstance(move[0], str):
        return False
    shape = SHAPES.get(move[0])
    if shape is None or len(move) != len(shape) + 1:
        return False
    for part, item in zip(shape, move[1:]):
        if not fits(part, item):
            return False
    return True


def fits(part, item):
    """Return whether an item of a move is of this kind and within its bounds."""
    if part == "place":
        return is_end_place(item) and item[1] <= MOST_DEPTH
    if part == "end":
        return is_end(item)
    least = -MOST_BLOCK if part == "signed" else 0
    return is_number(item) and least <= item <= MOST_BLOCK


def check_move(move):
    """Raise BadMove if a value is not a move."""
    if not is_move(move):
        raise BadMove(0)


def reach(move):
    """Return the number of cards that a pile needs for the move to change it."""
    check_move(move)
    name = move[0]
    if name == "over":
        return 0
    if name == "cut":
        return abs(move[1])
    if name == "turn":
        return move[2]
    return max([depth for end, depth in move[1:]]) + 1


def move_text(move):
    """Return the text of a move."""
    check_move(move)
    words = [move[0]]
    for part, item in zip(SHAPES[move[0]], move[1:]):
        words.append(item_text(part, item))
    return " ".join(words)


def item_text(part, item):
    """Return the text of an item of a move."""
    if part == "place":
        return place_text(item)
    if part == "end":
        return end_text(item)
    return str(item)


def parse_move(text):
    """Return the move of a text."""
    words = text.split(" ")
    shape = SHAPES.get(words[0])
    if shape is None or len(words) != len(shape) + 1:
        raise BadText(0)
    items = [words[0]]
    for part, word in zip(shape, words[1:]):
        items.append(read_item(part, word))
    move = tuple(items)
    # An item that could not be read is None here, which no move has.
    if not is_move(move):
        raise BadText(0)
    return move


def read_item(part, word):
    """Return the item of a move that a word stands for; None or BadText for any other word."""
    if part == "place":
        return parse_place(word)
    if part == "end":
        return read_end(word)
    return read_number(word)


def undoing(move):
    """Return the move that undoes a move at every size."""
    check_move(move)
    if move[0] == "carry":
        return ("carry", move[2], move[1])
    if move[0] == "cut":
        return ("cut", -move[1])
    return move


def image(move, size, place):
    """Return the pair (place, turned): where a move takes the card at a place."""
    check_move(move)
    check_size(size)
    check_place(place, size)
    if size < reach(move):
        return (place, False)
    action = IMAGES[move[0]]
    return action(move, size, place)


def swap_image(move, size, place):
    """Return the image of a place under a swap."""
    one = resolve(move[1], size)
    other = resolve(move[2], size)
    if place == one:
        return (other, False)
    if place == other:
        return (one, False)
    return (place, False)


def carry_image(move, size, place):
    """Return the image of a place under a carry."""
    start = resolve(move[1], size)
    goal = resolve(move[2], size)
    if place == start:
        return (goal, False)
    # Only the cards between the two places make room, by one place towards the start.
    if start < place <= goal:
        return (place - 1, False)
    if goal <= place < start:
        return (place + 1, False)
    return (place, False)


def cut_image(move, size, place):
    """Return the image of a place under a cut."""
    return ((place - move[1]) % size, False)


def turn_image(move, size, place):
    """Return the image of a place under a turn."""
    first = 0 if move[1] == "top" else size - move[2]
    beyond = first + move[2]
    if first <= place < beyond:
        return (first + beyond - 1 - place, True)
    return (place, False)


def over_image(move, size, place):
    """Return the image of a place when the whole pile is turned over."""
    return (size - 1 - place, True)


def face_image(move, size, place):
    """Return the image of a place when one card is turned over where it lies."""
    return (place, place == resolve(move[1], size))


IMAGES = {
    "swap": swap_image,
    "carry": carry_image,
    "cut": cut_image,
    "turn": turn_image,
    "over": over_image,
    "face": face_image,
}
