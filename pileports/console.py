"""Consoles: lines that are run in a room."""

from pileports.alike import first_difference
from pileports.deeds import ITEMS
from pileports.errors import Missing, PileError
from pileports.numbers import read_number
from pileports.rooms import Room
from pileports.steady import form_of, steady_from
from pileports.ways import order


class Console:
    """Runs lines in a room, and keeps them with their answers."""

    def __init__(self, *, room=None):
        self.used = Room() if room is None else room
        self.lines = []

    def run(self, line):
        """Return the answer to a line."""
        answer = answer_to(self.used, line)
        self.lines.append((line, answer))
        return answer

    def room(self):
        """Return the very room that the console uses."""
        return self.used

    def log(self):
        """Return the list of the pairs (line, answer) of all lines."""
        return list(self.lines)

    def __len__(self):
        return len(self.lines)


def answer_to(room, line):
    """Return the answer to a line in a room."""
    items = read_line(line)
    if items is None:
        return "invalid"
    try:
        return answer_of(room, items)
    except (PileError, Missing) as error:
        return f"error {error.code}"


def read_line(line):
    """Return the tuple of the first word of a line and its items, or None if the line is invalid."""
    name = line.split(" ")[0]
    parts = PARTS.get(name)
    if parts is None:
        return None
    # A text is the rest of its line, spaces and all.
    words = line.split(" ", len(parts)) if "text" in parts else line.split(" ")
    if len(words) != len(parts) + 1:
        return None
    items = [read_item(part, word) for part, word in zip(parts, words[1:])]
    if len([item for item in items if item is None]) > 0:
        return None
    return (name, *items)


def read_item(part, word):
    """Return the item of a line that a word stands for, or None for a word that does not fit."""
    if part == "number":
        return read_number(word)
    if part == "name" and word == "":
        return None
    return word


def answer_of(room, items):
    """Return the answer to the items of a line that is valid."""
    if items[0] in ITEMS:
        return news_text(room.apply(items))
    action = ANSWERS[items[0]]
    others = items[1:]
    return action(room, *others)


def news_text(news):
    """Return the answer to a deed."""
    if len(news) == 0:
        return "ok"
    return " ".join([f"{number}:{yes_or_no(holds)}" for number, holds in news])


def yes_or_no(truth):
    """Return the word for a truth value."""
    return "yes" if truth else "no"


def names_text(names):
    """Return the answer that lists names."""
    return " ".join(names) if len(names) > 0 else "none"


def card_text(card):
    """Return the answer for a card: a pair of its place and of whether it is turned over."""
    place, turned = card
    return f"{place} turned" if turned else f"{place} same"


def undo_answer(room):
    """Undo the last step."""
    room.undo()
    return "ok"


def redo_answer(room):
    """Redo the step that was undone last."""
    room.redo()
    return "ok"


def words_answer(room):
    """Answer which words there are."""
    return names_text(room.words())


def piles_answer(room):
    """Answer which piles there are."""
    return names_text(room.piles())


def show_answer(room, name):
    """Answer what the text of a word is."""
    word = room.get(name)
    return str(word) if len(word) > 0 else "empty"


def form_answer(room, name):
    """Answer what the form of a word is."""
    return str(form_of(room.get(name)))


def steady_answer(room, name):
    """Answer what the steady size of a word is."""
    return str(steady_from(room.get(name)))


def order_answer(room, name, size):
    """Answer what the order of a word is at a size."""
    return str(order(room.get(name), size))


def alike_answer(room, one, other, size):
    """Answer whether two words are alike at a size."""
    return yes_or_no(first_difference(room.get(one), room.get(other), size) is None)


def where_answer(room, pile, mark):
    """Answer where a marked card lies."""
    return card_text(room.pile(pile).find(mark))


def start_answer(room, pile, place):
    """Answer where the card that lies at a place started."""
    return card_text(room.pile(pile).start(place))


# What stands behind the first word of each line.
PARTS = {
    "word": ("name", "text"),
    "drop": ("name",),
    "pile": ("name", "number"),
    "away": ("name",),
    "play": ("name", "name", "number"),
    "mark": ("name", "name", "number"),
    "unmark": ("name", "name"),
    "watch": ("name", "name"),
    "unwatch": ("number",),
    "undo": (),
    "redo": (),
    "words": (),
    "piles": (),
    "show": ("name",),
    "form": ("name",),
    "steady": ("name",),
    "order": ("name", "number"),
    "alike": ("name", "name", "number"),
    "where": ("name", "name"),
    "start": ("name", "number"),
}

ANSWERS = {
    "undo": undo_answer,
    "redo": redo_answer,
    "words": words_answer,
    "piles": piles_answer,
    "show": show_answer,
    "form": form_answer,
    "steady": steady_answer,
    "order": order_answer,
    "alike": alike_answer,
    "where": where_answer,
    "start": start_answer,
}
