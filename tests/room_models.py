"""Models of piles and rooms that move all cards one by one, and that copy everything for each step."""

import copy

from pileports.steady import form_of
from pileports.words import Word
from tests.models import all_back, moved_one_by_one, one_round

MOST = 10 ** 30


class Refused(Exception):
    """An error with its code and the value of its attribute."""


def attribute_of(error):
    """The value of the one attribute that an error has beside its code, or None."""
    values = [value for name, value in vars(error).items() if name != "code"]
    return values[0] if values else None


def is_model_name(text):
    return 1 <= len(text) <= 8 and all("a" <= sign <= "z" for sign in text)


class ModelPile:
    """A small marked pile."""

    def __init__(self, size):
        self.size = size
        self.cards = [(place, False) for place in range(size)]
        self.plays = []
        self.marks = {}

    def play(self, text, rounds):
        if not -MOST <= rounds <= MOST:
            raise Refused("BadRounds", rounds)
        if len(self.plays) == 60:
            raise Refused("Full", 60)
        images = moved_one_by_one(Word.read(text).moves(), self.size)
        for step in range(abs(rounds)):
            self.cards = one_round(self.cards, images if rounds > 0 else all_back(images))
        self.plays.append((text, rounds))

    def mark(self, name, place):
        if not is_model_name(name):
            raise Refused("BadName", name)
        if name in self.marks:
            raise Refused("Taken", name)
        if not 0 <= place < self.size:
            raise Refused("NoPlace", place)
        if len(self.marks) == 12:
            raise Refused("Full", 12)
        self.marks[name] = [here for here, turned in self.cards].index(place)

    def unmark(self, name):
        if name not in self.marks:
            raise Refused("NoMark", name)
        del self.marks[name]

    def places(self):
        return {name: self.cards[card][0] for name, card in self.marks.items()}


class ModelRoom:
    """A room of small piles."""

    def __init__(self):
        self.words, self.piles, self.watches, self.next = {}, {}, {}, 1
        self.past, self.future = [], []
        self.capacity = 12

    def contents(self):
        return copy.deepcopy((self.words, self.piles, self.watches, self.next))

    def fill(self, contents):
        self.words, self.piles, self.watches, self.next = copy.deepcopy(contents)

    def truths(self):
        forms = {name: form_of(Word.read(text)) for name, text in self.words.items()}
        return {number: forms[one] == forms[other] for number, (one, other) in sorted(self.watches.items())}

    def apply_all(self, deeds, keep=True):
        for at, deed in enumerate(deeds):
            counts = {"word": 3, "drop": 2, "pile": 3, "away": 2, "play": 4, "mark": 4, "unmark": 3, "watch": 3, "unwatch": 2}
            if type(deed) is not tuple or len(deed) == 0 or type(deed[0]) is not str or counts.get(deed[0]) != len(deed):
                raise Refused("BadDeed", at)
        before, truths = self.contents(), self.truths()
        try:
            for deed in deeds:
                getattr(self, "do_" + deed[0])(*deed[1:])
        except Refused:
            self.fill(before)
            raise
        news = [(number, holds) for number, holds in self.truths().items() if truths.get(number) is not holds]
        if keep:
            self.past.append(before)
            self.future = []
        else:
            self.fill(before)
        return news

    def undo(self):
        if not self.past:
            raise Refused("NothingLeft", None)
        self.future.append(self.contents())
        self.fill(self.past.pop())

    def redo(self):
        if not self.future:
            raise Refused("NothingLeft", None)
        self.past.append(self.contents())
        self.fill(self.future.pop())

    def need_word(self, name):
        if name not in self.words:
            raise Refused("NoWord", name)

    def need_pile(self, name):
        if name not in self.piles:
            raise Refused("NoPile", name)

    def do_word(self, name, text):
        if not is_model_name(name):
            raise Refused("BadName", name)
        try:
            Word.read(text)
        except ValueError as error:
            raise Refused(error.code, attribute_of(error)) from None
        if name not in self.words and len(self.words) >= self.capacity:
            raise Refused("Full", self.capacity)
        self.words[name] = text

    def do_drop(self, name):
        self.need_word(name)
        for number, names in sorted(self.watches.items()):
            if name in names:
                raise Refused("InUse", number)
        del self.words[name]

    def do_pile(self, name, size):
        if not is_model_name(name):
            raise Refused("BadName", name)
        if name in self.piles:
            raise Refused("Taken", name)
        if not 0 <= size <= MOST:
            raise Refused("BadSize", size)
        if len(self.piles) == 6:
            raise Refused("Full", 6)
        self.piles[name] = ModelPile(size)

    def do_away(self, name):
        self.need_pile(name)
        del self.piles[name]

    def do_play(self, pile, word, rounds):
        self.need_pile(pile)
        self.need_word(word)
        self.piles[pile].play(self.words[word], rounds)

    def do_mark(self, pile, mark, place):
        self.need_pile(pile)
        self.piles[pile].mark(mark, place)

    def do_unmark(self, pile, mark):
        self.need_pile(pile)
        self.piles[pile].unmark(mark)

    def do_watch(self, one, other):
        self.need_word(one)
        self.need_word(other)
        if len(self.watches) == 6:
            raise Refused("Full", 6)
        self.watches[self.next] = (one, other)
        self.next += 1

    def do_unwatch(self, number):
        if number not in self.watches:
            raise Refused("NoWatch", number)
        del self.watches[number]


def outcome(call, *arguments, **named):
    """What a call returns, or the error that it raises, as a pair."""
    try:
        return "returned", call(*arguments, **named)
    except Refused as error:
        return "raised", error.args
    except (ValueError, LookupError) as error:
        if not hasattr(error, "code"):
            raise
        return "raised", (error.code, attribute_of(error))


def seen_pile(pile):
    """All that can be asked of a marked pile of the package."""
    return (pile.cards, pile.plays(), pile.marks(), {name: pile.find(name) for name in pile.marks()},
            [pile.now(place) for place in range(pile.cards)], len(pile), repr(pile))


def seen_model_pile(pile):
    """The same of a model."""
    found = {name: pile.cards[card] for name, card in pile.marks.items()}
    text = f"MarkedPile({pile.size} cards, {len(pile.plays)} plays, {len(pile.marks)} marks)"
    return pile.size, pile.plays, pile.places(), found, pile.cards, len(pile.plays), text


def seen_room(room):
    """All that can be asked of a room of the package, with small piles."""
    words = {name: str(room.get(name)) for name in room.words()}
    piles = {name: seen_pile(room.pile(name)) for name in room.piles()}
    return (room.words(), words, room.piles(), piles, room.watches(), room.coming(), room.history(), room.capacity,
            room.busy, len(room), repr(room))


def seen_model_room(room):
    """The same of a model."""
    truths = room.truths()
    watches = [(number, *room.watches[number], truths[number]) for number in sorted(room.watches)]
    piles = {name: seen_model_pile(pile) for name, pile in room.piles.items()}
    text = f"Room({len(room.words)} words, {len(room.piles)} piles, {len(room.watches)} watches)"
    return (sorted(room.words), room.words, sorted(room.piles), piles, watches, room.next,
            (len(room.past), len(room.future)), room.capacity, False, len(room.words), text)
