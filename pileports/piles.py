"""Piles that keep their plays, and marked piles that keep names on their cards as well."""

from pileports.courses import course_of, place_through
from pileports.errors import Full, NoMark, Taken
from pileports.names import check_name
from pileports.places import check_place, check_size
from pileports.rounds import check_rounds
from pileports.steps import Steps


class Pile:
    """A pile of cards with a list of plays."""

    MOST_PLAYS = 60

    def __init__(self, size):
        check_size(size)
        self.size = size
        # A state is a pair: the plays, as triples (text, rounds, course), and the marks, as ascending pairs of a name
        # and the place where the marked card started.
        self.kept = Steps(((), ()))

    @property
    def cards(self):
        """The number of cards."""
        return self.size

    def play(self, word, *, rounds=1):
        """Play a word."""
        plays, marks = self.kept.present
        check_rounds(rounds)
        if len(plays) >= Pile.MOST_PLAYS:
            raise Full(Pile.MOST_PLAYS)
        played = (str(word), rounds, course_of(word, self.size))
        self.kept.take(((*plays, played), marks))

    def plays(self):
        """Return the list of the plays: pairs (text of a word, rounds)."""
        return [(text, rounds) for text, rounds, course in self.kept.present[0]]

    def now(self, place):
        """Return the pair (place, turned): where the card that started at a place lies now."""
        check_place(place, self.size)
        courses = [(course, rounds) for text, rounds, course in self.kept.present[0]]
        return place_through(courses, self.size, place)

    def start(self, place):
        """Return the pair (place, turned): where the card that lies at a place now started."""
        check_place(place, self.size)
        courses = [(course, -rounds) for text, rounds, course in reversed(self.kept.present[0])]
        return place_through(courses, self.size, place)

    def undo(self):
        """Take back the last step."""
        self.kept.back()

    def redo(self):
        """Do the step again that was undone last."""
        self.kept.forth()

    def history(self):
        """Return the pair (number of steps that can be undone, number of steps that can be redone)."""
        return self.kept.counts()

    def twin(self):
        """Return an independent pile of the same class with the same plays and steps."""
        twin = Pile(self.size)
        twin.kept = self.kept.doubled()
        return twin

    def __eq__(self, other):
        if not isinstance(other, Pile) or isinstance(other, MarkedPile):
            return False
        return self.size == other.size and self.kept.present == other.kept.present

    def __len__(self):
        return len(self.kept.present[0])

    def __repr__(self):
        return f"Pile({self.size} cards, {len(self.kept.present[0])} plays)"


class MarkedPile(Pile):
    """A pile with names on some of its cards."""

    MOST_MARKS = 12

    def __init__(self, size):
        Pile.__init__(self, size)

    def mark(self, name, place):
        """Put a mark on the card that lies at a place now."""
        check_name(name)
        if name in dict(self.kept.present[1]):
            raise Taken(name)
        card, turned = self.start(place)
        self.mark_card(name, card)

    def mark_card(self, name, card):
        """Put a mark on the card that started at a place, for a name that is known to be right and free."""
        plays, marks = self.kept.present
        check_place(card, self.size)
        if len(marks) >= MarkedPile.MOST_MARKS:
            raise Full(MarkedPile.MOST_MARKS)
        self.kept.take((plays, tuple(sorted([*marks, (name, card)]))))

    def unmark(self, name):
        """Take a mark off."""
        self.card_of(name)
        plays, marks = self.kept.present
        self.kept.take((plays, tuple([(other, card) for other, card in marks if other != name])))

    def marks(self):
        """Return the dict from the names of the marks to the places where the marked cards lie now."""
        return {name: self.now(card)[0] for name, card in self.kept.present[1]}

    def find(self, name):
        """Return the pair (place, turned): where the marked card lies now."""
        return self.now(self.card_of(name))

    def marked_cards(self):
        """Return the ascending list of the pairs of a mark and the place where its card started."""
        return list(self.kept.present[1])

    def card_of(self, name):
        """Return the place where a marked card started."""
        for other, card in self.kept.present[1]:
            if other == name:
                return card
        raise NoMark(name)

    def twin(self):
        """Return an independent pile of the same class with the same plays, marks and steps."""
        twin = MarkedPile(self.size)
        twin.kept = self.kept.doubled()
        return twin

    def fresh(self):
        """Return an independent pile of the same class with the same plays and marks, and without steps."""
        fresh = MarkedPile(self.size)
        fresh.kept = Steps(self.kept.present)
        return fresh

    def __eq__(self, other):
        if not isinstance(other, MarkedPile):
            return False
        return self.size == other.size and self.kept.present == other.kept.present

    def __repr__(self):
        plays, marks = self.kept.present
        return f"MarkedPile({self.size} cards, {len(plays)} plays, {len(marks)} marks)"
