"""Deeds: what can be done in a room. A deed changes the contents that it is given; if it raises, they are let go."""

from pileports.errors import BadDeed, Full, InUse, NoWatch, Taken
from pileports.names import check_name
from pileports.piles import MarkedPile
from pileports.steady import form_of
from pileports.words import Word


def check_deeds(deeds):
    """Raise BadDeed for the first value that does not look like a deed."""
    for at, deed in enumerate(deeds):
        if not is_deed(deed):
            raise BadDeed(at)


def is_deed(value):
    """Return whether a value is a tuple with the name of a deed and with as many items as this deed has."""
    if not isinstance(value, tuple) or len(value) == 0 or not isinstance(value[0], str):
        return False
    return ITEMS.get(value[0]) == len(value) - 1


def do_deed(contents, deed):
    """Do what is known to look like a deed."""
    action = ACTIONS[deed[0]]
    items = deed[1:]
    action(contents, *items)


def add_word(contents, name, text):
    """Add a word, or replace the one with this name."""
    check_name(name)
    word = Word.read(text)
    if name not in contents.named_words and len(contents.named_words) >= contents.most_words:
        raise Full(contents.most_words)
    contents.named_words[name] = (word, form_of(word))


def drop_word(contents, name):
    """Remove a word that no watch names."""
    contents.word_named(name)
    for number in sorted(contents.numbered):
        if name in contents.numbered[number]:
            raise InUse(number)
    del contents.named_words[name]


def add_pile(contents, name, size):
    """Add a pile."""
    check_name(name)
    if name in contents.named_piles:
        raise Taken(name)
    pile = MarkedPile(size)
    if len(contents.named_piles) >= contents.most_piles:
        raise Full(contents.most_piles)
    contents.named_piles[name] = pile


def take_pile_away(contents, name):
    """Remove a pile."""
    contents.pile_named(name)
    del contents.named_piles[name]


def play_word(contents, name, word_name, rounds):
    """Play a word of the room on a pile."""
    pile = contents.pile_named(name)
    word = contents.word_named(word_name)
    pile.play(word, rounds=rounds)
    contents.named_piles[name] = pile


def put_mark(contents, name, mark, place):
    """Put a mark on the card that lies at a place of a pile now."""
    pile = contents.pile_named(name)
    pile.mark(mark, place)
    contents.named_piles[name] = pile


def take_mark_off(contents, name, mark):
    """Take a mark off."""
    pile = contents.pile_named(name)
    pile.unmark(mark)
    contents.named_piles[name] = pile


def add_watch(contents, one, other):
    """Add a watch."""
    contents.word_named(one)
    contents.word_named(other)
    if len(contents.numbered) >= contents.most_watches:
        raise Full(contents.most_watches)
    contents.numbered[contents.upcoming] = (one, other)
    contents.upcoming += 1


def remove_watch(contents, number):
    """Remove a watch."""
    if number not in contents.numbered:
        raise NoWatch(number)
    del contents.numbered[number]


# How many items stand behind the first one of each deed.
ITEMS = {
    "word": 2,
    "drop": 1,
    "pile": 2,
    "away": 1,
    "play": 3,
    "mark": 3,
    "unmark": 2,
    "watch": 2,
    "unwatch": 1,
}

ACTIONS = {
    "word": add_word,
    "drop": drop_word,
    "pile": add_pile,
    "away": take_pile_away,
    "play": play_word,
    "mark": put_mark,
    "unmark": take_mark_off,
    "watch": add_watch,
    "unwatch": remove_watch,
}
