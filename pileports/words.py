"""Words: lists of moves that are played one after another."""

from pileports.errors import BadMove, BadText, TooLong
from pileports.moves import all_images, cards_needed, is_move, move_text, moved, parse_move, undoing
from pileports.places import check_listed, check_place, check_size


class Word:
    """A list of moves that is played on piles of every size. It does not change."""

    MOST_MOVES = 40
    MOST_REACH = 60

    def __init__(self, *moves):
        for at, move in enumerate(moves):
            if not is_move(move):
                raise BadMove(at)
        if len(moves) > Word.MOST_MOVES:
            raise TooLong(Word.MOST_MOVES)
        needed = sum([cards_needed(move) for move in moves])
        if needed > Word.MOST_REACH:
            raise TooLong(Word.MOST_REACH)
        self.steps = moves
        self.needed = needed

    @classmethod
    def read(cls, text):
        """Return the word of a text."""
        # An empty text has one part when it is split, but its word has no move.
        parts = text.split("; ") if text != "" else []
        moves = []
        for at, part in enumerate(parts):
            try:
                moves.append(parse_move(part))
            except BadText:
                raise BadText(at) from None
        return cls(*moves)

    @property
    def reach(self):
        """The sum of the reaches of the moves."""
        return self.needed

    def moves(self):
        """Return the list of the moves."""
        return list(self.steps)

    def undone(self):
        """Return the word that undoes this one at every size."""
        moves = [undoing(move) for move in reversed(self.steps)]
        return Word(*moves)

    def image(self, size, place):
        """Return the pair (place, turned): where the word takes the card at a place."""
        check_size(size)
        check_place(place, size)
        odd = False
        for move in self.steps:
            place, turned = moved(move, size, place)
            odd = odd != turned
        return (place, odd)

    def play(self, size):
        """Return the list of the images of all places."""
        check_size(size)
        check_listed(size)
        return all_images(self.steps, size)

    def __add__(self, other):
        moves = [*self.steps, *other.steps]
        return Word(*moves)

    def __len__(self):
        return len(self.steps)

    def __eq__(self, other):
        return isinstance(other, Word) and self.steps == other.steps

    def __str__(self):
        return "; ".join([move_text(move) for move in self.steps])

    def __repr__(self):
        return f"Word({len(self.steps)} moves)"
