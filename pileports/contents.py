"""What a room holds at one time."""

from pileports.errors import NoPile, NoWord


class Contents:
    """Words, piles and watches, and how many of them there may be. Only the step that makes it changes it."""

    def __init__(self, most_words, most_piles, most_watches):
        self.most_words = most_words
        self.most_piles = most_piles
        self.most_watches = most_watches
        # The dicts lead from names to pairs of a word and its form, from names to marked piles, and from numbers to
        # pairs of the names of two words. The marked piles do not change: a deed puts another one in their place.
        self.named_words = {}
        self.named_piles = {}
        self.numbered = {}
        self.upcoming = 1

    def copied(self, most_words):
        """Return equal contents that may have so many words."""
        copied = Contents(most_words, self.most_piles, self.most_watches)
        copied.named_words = dict(self.named_words)
        copied.named_piles = dict(self.named_piles)
        copied.numbered = dict(self.numbered)
        copied.upcoming = self.upcoming
        return copied

    def word_named(self, name):
        """Return the word with a name."""
        if name not in self.named_words:
            raise NoWord(name)
        word, form = self.named_words[name]
        return word

    def pile_named(self, name):
        """Return an independent pile like the one with a name, without steps."""
        if name not in self.named_piles:
            raise NoPile(name)
        return self.named_piles[name].fresh()

    def truths(self):
        """Return the dict from the numbers of the watches, ascending, to whether they hold."""
        found = {}
        for number in sorted(self.numbered):
            one, other = self.numbered[number]
            found[number] = self.named_words[one][1] == self.named_words[other][1]
        return found

    def news_since(self, before):
        """Return the list of the pairs (number, holds) of the watches that are new, or whose truth has changed."""
        earlier = before.truths()
        return [(number, holds) for number, holds in self.truths().items() if earlier.get(number) != holds]

    def __eq__(self, other):
        return (
            isinstance(other, Contents)
            and self.named_words == other.named_words
            and self.named_piles == other.named_piles
            and self.numbered == other.numbered
            and self.upcoming == other.upcoming
        )
