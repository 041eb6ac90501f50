"""Rooms: named words, marked piles and watches, with a history."""

from pileports.contents import Contents
from pileports.deeds import check_deeds, do_deed
from pileports.errors import BadCapacity
from pileports.steady import steady_from
from pileports.steps import Steps


class Room:
    """Words, marked piles and watches that deeds change."""

    MOST_WORDS = 12
    MOST_PILES = 6
    MOST_WATCHES = 6

    def __init__(self):
        self.most_words = Room.MOST_WORDS
        self.kept = Steps(empty_contents())
        self.trying = False

    def apply(self, deed):
        """Do a deed as one step, and return the news."""
        return self.apply_all([deed])

    def apply_all(self, deeds):
        """Do a list of deeds as one step, and return the news."""
        before = self.kept.present
        contents = self.after_deeds(deeds)
        self.kept.take(contents)
        return contents.news_since(before)

    def trial(self, deeds):
        """Return the news that a list of deeds would bring, or raise its error, without doing it."""
        self.trying = True
        try:
            news = self.after_deeds(deeds).news_since(self.kept.present)
        finally:
            self.trying = False
        return news

    def after_deeds(self, deeds):
        """Return what the room would hold after a list of deeds."""
        check_deeds(deeds)
        contents = self.kept.present.copied(self.most_words)
        for deed in deeds:
            do_deed(contents, deed)
        return contents

    @property
    def busy(self):
        """Whether a trial is running."""
        return self.trying

    def undo(self):
        """Take back the last step."""
        self.kept.back()

    def redo(self):
        """Do the step again that was undone last."""
        self.kept.forth()

    def history(self):
        """Return the pair (number of steps that can be undone, number of steps that can be redone)."""
        return self.kept.counts()

    @property
    def capacity(self):
        """The number of words that the room may have."""
        return self.most_words

    @capacity.setter
    def capacity(self, value):
        self.set_capacity(value)

    def set_capacity(self, value):
        """Set the number of words that the room may have, which is no step."""
        if value < 1 or value > Room.MOST_WORDS:
            raise BadCapacity(value)
        self.most_words = value

    def words(self):
        """Return the ascending list of the names of the words."""
        return sorted(self.kept.present.named_words)

    def piles(self):
        """Return the ascending list of the names of the piles."""
        return sorted(self.kept.present.named_piles)

    def get(self, name):
        """Return the word with a name."""
        return self.kept.present.word_named(name)

    def pile(self, name):
        """Return an independent pile with the plays and marks of a pile, and without steps."""
        return self.kept.present.pile_named(name)

    def watches(self):
        """Return the ascending list of the watches: (number, one, other, holds)."""
        contents = self.kept.present
        truths = contents.truths()
        return [(number, one, other, truths[number]) for number, (one, other) in sorted(contents.numbered.items())]

    def coming(self):
        """Return the number of the next watch."""
        return self.kept.present.upcoming

    def twin(self):
        """Return an independent room with the same contents, capacity and steps."""
        twin = Room()
        twin.most_words = self.most_words
        twin.kept = self.kept.doubled()
        return twin

    def table(self):
        """Return a list with a line for each word, ascending: its name, reach, steady size and text."""
        return [table_line(name, self.get(name)) for name in self.words()]

    def __eq__(self, other):
        return isinstance(other, Room) and self.kept.present == other.kept.present

    def __len__(self):
        return len(self.kept.present.named_words)

    def __contains__(self, name):
        return name in self.kept.present.named_words

    def __repr__(self):
        contents = self.kept.present
        piles, watches = len(contents.named_piles), len(contents.numbered)
        return f"Room({len(contents.named_words)} words, {piles} piles, {watches} watches)"


def empty_contents():
    """Return the contents of a new room."""
    return Contents(Room.MOST_WORDS, Room.MOST_PILES, Room.MOST_WATCHES)


def table_line(name, word):
    """Return the line of a word in a table."""
    return f"{name:<8}|{word.reach:>3}|{steady_from(word):>4}|{word}"


def room_holding(contents):
    """Return a room with these contents and without steps."""
    room = Room()
    room.kept = Steps(contents)
    return room
