"""Names of words, piles and marks."""

from pileports.errors import BadName

LETTERS = "abcdefghijklmnopqrstuvwxyz"
MOST_LETTERS = 8


def check_name(text):
    """Raise BadName if a text is not a name."""
    if len(text) < 1 or len(text) > MOST_LETTERS or text.strip(LETTERS) != "":
        raise BadName(text)
