"""Forms: what words do to both ends of all piles that are large enough."""

from pileports.errors import BadForm, BadMove, BadText, TooSmall, TooWide
from pileports.moves import is_move
from pileports.numbers import read_number
from pileports.places import check_end_place, check_listed, check_place, check_size, parse_place, place_text
from pileports.spelling import MOST_SPELLED, spelled_moves
from pileports.tables import check_width, entry_at, inverted, is_form, move_parts, normal, place_image, product


class Form:
    """One description of a play for all piles from some size on. It does not change, and it is normal."""

    WIDEST = 400

    def __init__(self, turned, shift, top, bottom):
        parts = (turned, shift, top, bottom)
        check_width(parts, Form.WIDEST)
        if not is_form(parts):
            raise BadForm()
        self.parts = normal(turned, shift, top, bottom)

    @staticmethod
    def still():
        """Return the form of no moves."""
        return Form(False, 0, [], [])

    @classmethod
    def of(cls, moves):
        """Return the form of a list of moves."""
        for at, move in enumerate(moves):
            if not is_move(move):
                raise BadMove(at)
        parts = (False, 0, (), ())
        for move in moves:
            parts = product(parts, move_parts(move))
            check_width(parts, Form.WIDEST)
        return cls(*parts)

    @classmethod
    def read(cls, text):
        """Return the form of a text."""
        parts = read_parts(text)
        try:
            form = cls(*parts)
        except (BadForm, TooWide):
            raise BadText(0) from None
        # This finds what read_parts lets pass: tables that are not normal, and entries at other depths.
        if str(form) != text:
            raise BadText(0)
        return form

    @property
    def turned(self):
        """Whether the places behind the tables change ends and are turned over."""
        return self.parts[0]

    @property
    def shift(self):
        """How far the places behind the tables go."""
        return self.parts[1]

    @property
    def least(self):
        """The least size at which the form is a play."""
        return len(self.parts[2]) + len(self.parts[3])

    def top(self):
        """Return the list of the entries of the top table."""
        return list(self.parts[2])

    def bottom(self):
        """Return the list of the entries of the bottom table."""
        return list(self.parts[3])

    def __call__(self, end_place):
        check_end_place(end_place)
        end, depth = end_place
        return entry_at(self.parts, end, depth)

    def image(self, size, place):
        """Return the pair (place, turned): where the form takes the card at a place."""
        self.check_least(size)
        check_place(place, size)
        return place_image(self.parts, size, place)

    def listed(self, size):
        """Return the list of the images of all places."""
        self.check_least(size)
        check_listed(size)
        return [place_image(self.parts, size, place) for place in range(size)]

    def check_least(self, size):
        """Raise BadSize, or TooSmall if the form is not a play at a size."""
        check_size(size)
        if size < self.least:
            raise TooSmall(self.least)

    def inverse(self):
        """Return the form that sends each end place back."""
        parts = inverted(self.parts)
        return Form(*parts)

    def spelled(self):
        """Return a list of moves whose form is this one."""
        check_width(self.parts, MOST_SPELLED)
        return spelled_moves(self.parts)

    def __mul__(self, other):
        # The parts are normal before Form asks for their width, so only entries that are needed count.
        parts = product(self.parts, other.parts)
        return Form(*parts)

    def __eq__(self, other):
        return isinstance(other, Form) and self.parts == other.parts

    def __str__(self):
        turned, shift, top, bottom = self.parts
        above = table_texts("top", top)
        below = table_texts("bottom", bottom)
        return " ".join([turned_text(turned), str(shift), *above, "|", *below])

    def __repr__(self):
        # The least size is the number of the entries of both tables.
        return f"Form({turned_text(self.turned)}, shift {self.shift}, {self.least} entries)"


def turned_text(turned):
    """Return the word for forms that are turned, or the one for the others."""
    return "over" if turned else "still"


def table_texts(end, table):
    """Return the texts of the entries of a table."""
    return [entry_text((end, depth), entry) for depth, entry in enumerate(table)]


def entry_text(start, entry):
    """Return the text of the entry of an end place."""
    end, depth, turned = entry
    mark = "!" if turned else ""
    return f"{place_text(start)}>{place_text((end, depth))}{mark}"


def read_parts(text):
    """Return the four parts that a text gives, without asking whether they make a form."""
    words = text.split(" ")
    if words[0] not in ("still", "over") or "|" not in words:
        raise BadText(0)
    middle = words.index("|")
    shift = read_number(words[1])
    if shift is None:
        raise BadText(0)
    top = [read_entry(word) for word in words[2:middle]]
    bottom = [read_entry(word) for word in words[middle + 1:]]
    return (words[0] == "over", shift, top, bottom)


def read_entry(word):
    """Return the entry of a text, wherever it says that it stands."""
    start, sign, goal = word.partition(">")
    end, depth = parse_place(goal.removesuffix("!"))
    return (end, depth, goal.endswith("!"))
