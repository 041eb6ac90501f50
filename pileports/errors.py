"""The errors of the package, also those that only some of its modules raise."""


class PileError(ValueError):
    """A value that the package cannot work with."""

    def __init__(self, code="PileError"):
        self.code = code


class BadPlace(PileError):
    """A value is not an end place."""

    def __init__(self, place):
        PileError.__init__(self, "BadPlace")
        self.place = place


class BadMove(PileError):
    """The value at this index is not a move."""

    def __init__(self, at):
        PileError.__init__(self, "BadMove")
        self.at = at


class BadText(PileError):
    """The part at this index is not the text of what it should be."""

    def __init__(self, at):
        PileError.__init__(self, "BadText")
        self.at = at


class TooLong(PileError):
    """A word has more moves, or a greater reach, than this limit."""

    def __init__(self, limit):
        PileError.__init__(self, "TooLong")
        self.limit = limit


class BadForm(PileError):
    """A shift and two tables do not make a form."""

    def __init__(self):
        PileError.__init__(self, "BadForm")


class TooWide(PileError):
    """A table of a form has more entries than this limit."""

    def __init__(self, limit):
        PileError.__init__(self, "TooWide")
        self.limit = limit


class BadSize(PileError):
    """A pile cannot have this size."""

    def __init__(self, size):
        PileError.__init__(self, "BadSize")
        self.size = size


class TooGreat(PileError):
    """More was asked for than this limit."""

    def __init__(self, limit):
        PileError.__init__(self, "TooGreat")
        self.limit = limit


class TooSmall(PileError):
    """A pile has fewer cards than this limit."""

    def __init__(self, limit):
        PileError.__init__(self, "TooSmall")
        self.limit = limit


class NoPlace(PileError):
    """A pile does not have this place."""

    def __init__(self, place):
        PileError.__init__(self, "NoPlace")
        self.place = place


class BadRounds(PileError):
    """A word cannot be played for this number of rounds."""

    def __init__(self, rounds):
        PileError.__init__(self, "BadRounds")
        self.rounds = rounds


class NoShift(PileError):
    """A form is turned, or its shift is 0."""

    def __init__(self):
        PileError.__init__(self, "NoShift")


class Shifted(PileError):
    """A form is not turned, and its shift is not 0."""

    def __init__(self):
        PileError.__init__(self, "Shifted")


class BadRemainder(PileError):
    """The pair at this index is not a remainder and a modulus."""

    def __init__(self, at):
        PileError.__init__(self, "BadRemainder")
        self.at = at


class BadName(PileError):
    """A text is not a name."""

    def __init__(self, name):
        PileError.__init__(self, "BadName")
        self.name = name


class Taken(PileError):
    """A name is in use already."""

    def __init__(self, name):
        PileError.__init__(self, "Taken")
        self.name = name


class Full(PileError):
    """There are as many items as this limit allows."""

    def __init__(self, limit):
        PileError.__init__(self, "Full")
        self.limit = limit


class InUse(PileError):
    """The watch with this number still needs the item."""

    def __init__(self, number):
        PileError.__init__(self, "InUse")
        self.number = number


class BadCapacity(PileError):
    """A room cannot have this capacity."""

    def __init__(self, value):
        PileError.__init__(self, "BadCapacity")
        self.value = value


class BadDeed(PileError):
    """The value at this index does not look like a deed."""

    def __init__(self, at):
        PileError.__init__(self, "BadDeed")
        self.at = at


class BadPage(PileError):
    """The row at this index is not what a page has there."""

    def __init__(self, row):
        PileError.__init__(self, "BadPage")
        self.row = row


class Missing(LookupError):
    """Something that was asked for is not there."""

    def __init__(self, code="Missing"):
        self.code = code


class NoWord(Missing):
    """A room has no word with this name."""

    def __init__(self, name):
        Missing.__init__(self, "NoWord")
        self.name = name


class NoPile(Missing):
    """A room has no pile with this name."""

    def __init__(self, name):
        Missing.__init__(self, "NoPile")
        self.name = name


class NoMark(Missing):
    """A pile has no mark with this name."""

    def __init__(self, name):
        Missing.__init__(self, "NoMark")
        self.name = name


class NoWatch(Missing):
    """A room has no watch with this number."""

    def __init__(self, number):
        Missing.__init__(self, "NoWatch")
        self.number = number


class NothingLeft(Missing):
    """There is no step left to undo or to redo."""

    def __init__(self):
        Missing.__init__(self, "NothingLeft")
