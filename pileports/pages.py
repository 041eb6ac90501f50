"""Pages: rooms as texts, and rooms that are read from texts."""

from pileports.deeds import do_deed
from pileports.errors import BadPage, BadText, Missing, PileError
from pileports.names import check_name
from pileports.numbers import MOST_DIGITS, read_number
from pileports.rooms import empty_contents, room_holding
from pileports.words import Word

MOST_WATCH_DIGITS = 40


def write_page(room):
    """Return the page of a room."""
    rows = [f"word {name} {str(room.get(name))}" for name in room.words()]
    for name in room.piles():
        rows.extend(pile_rows(name, room.pile(name)))
    rows.extend([f"watch {number} {one} {other}" for number, one, other, holds in room.watches()])
    rows.append(f"next {room.coming()}")
    return "".join([row + "\n" for row in rows])


def pile_rows(name, pile):
    """Return the rows of a pile."""
    rows = [f"pile {name} {pile.cards}"]
    rows.extend([f"play {rounds} {text}" for text, rounds in pile.plays()])
    rows.extend([f"mark {mark} {card}" for mark, card in pile.marked_cards()])
    return rows


def read_page(text):
    """Return the room of a page."""
    rows = text.split("\n")
    # What stands behind the last line feed is a row without one, unless it is empty.
    rest = rows.pop()
    contents = empty_contents()
    kind = ""
    for at, row in enumerate(rows):
        try:
            kind = take_row(contents, kind, row)
        except (PileError, Missing):
            raise BadPage(at) from None
    if rest != "" or kind != "next":
        raise BadPage(len(rows))
    return room_holding(contents)


def take_row(contents, last_kind, row):
    """Add to contents what a row says that stands behind a row of some kind, and return the kind of the row.

    Any error means that the row is not one of a page, or not at this place.
    """
    kind = row.split(" ")[0]
    if kind not in BEHIND[last_kind]:
        raise BadText(0)
    items = row.split(" ", ITEMS[kind])[1:]
    if len(items) != ITEMS[kind]:
        raise BadText(0)
    action = ACTIONS[kind]
    action(contents, *items)
    return kind


def number_of(text, most_digits=MOST_DIGITS):
    """Return the number that a text writes; any other text is an error."""
    number = read_number(text, most_digits)
    if number is None:
        raise BadText(0)
    return number


def check_ascending(keys, key):
    """Raise BadText if a name or a number does not stand behind all others of its kind."""
    if len(keys) > 0 and key <= max(keys):
        raise BadText(0)


def take_word(contents, name, text):
    """Add the word of a row."""
    check_ascending(list(contents.named_words), name)
    do_deed(contents, ("word", name, text))


def take_pile(contents, name, size):
    """Add the pile of a row."""
    check_ascending(list(contents.named_piles), name)
    do_deed(contents, ("pile", name, number_of(size)))


def take_play(contents, rounds, text):
    """Play a row on the pile above it."""
    name = max(list(contents.named_piles))
    pile = contents.pile_named(name)
    pile.play(Word.read(text), rounds=number_of(rounds))
    contents.named_piles[name] = pile


def take_mark(contents, mark, card):
    """Put the mark of a row on a card of the pile above it."""
    name = max(list(contents.named_piles))
    pile = contents.pile_named(name)
    check_name(mark)
    check_ascending([other for other, place in pile.marked_cards()], mark)
    pile.mark_card(mark, number_of(card))
    contents.named_piles[name] = pile


def take_watch(contents, text, one, other):
    """Add the watch of a row."""
    take_next(contents, text)
    do_deed(contents, ("watch", one, other))


def take_next(contents, text):
    """Set the number of the next watch."""
    number = number_of(text, MOST_WATCH_DIGITS)
    # Watches are numbered from 1.
    check_ascending([0] + list(contents.numbered), number)
    contents.upcoming = number


# The kinds of rows that may stand behind a row of each kind; "" is the beginning of the page.
BEHIND = {
    "": ("word", "pile", "watch", "next"),
    "word": ("word", "pile", "watch", "next"),
    "pile": ("play", "mark", "pile", "watch", "next"),
    "play": ("play", "mark", "pile", "watch", "next"),
    "mark": ("mark", "pile", "watch", "next"),
    "watch": ("watch", "next"),
    "next": (),
}

# How many items stand behind the first word of each kind of row; the last one is the rest of the row.
ITEMS = {
    "word": 2,
    "pile": 2,
    "play": 2,
    "mark": 2,
    "watch": 3,
    "next": 1,
}

ACTIONS = {
    "word": take_word,
    "pile": take_pile,
    "play": take_play,
    "mark": take_mark,
    "watch": take_watch,
    "next": take_next,
}
