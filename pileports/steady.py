"""The form of a word, and the size from which on the word is the play of its form."""

from pileports.forms import Form


def form_of(word):
    """Return the form of a word."""
    return Form.of(word.moves())


def steady_from(word):
    """Return the least size from which on the word and its form are the same play."""
    form = form_of(word)
    # From twice the reach on, no card that is near one end meets the moves of the other end.
    size = 2 * word.reach
    while size > form.least and word.play(size - 1) == form.listed(size - 1):
        size -= 1
    return size
