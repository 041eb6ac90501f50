"""Rounds: where a card lies after a word, or several words, were played for many rounds."""

from pileports.courses import course_of, place_after, place_through
from pileports.errors import BadRounds
from pileports.places import check_place, check_size

MOST_ROUNDS = 10 ** 30


def check_rounds(rounds):
    """Raise BadRounds if a word cannot be played for so many rounds."""
    if rounds < -MOST_ROUNDS or rounds > MOST_ROUNDS:
        raise BadRounds(rounds)


def after(word, size, place, rounds):
    """Return the pair (place, turned) for the card that starts at a place, after so many rounds."""
    check_size(size)
    check_place(place, size)
    check_rounds(rounds)
    return place_after(course_of(word, size), size, place, rounds)


def through(plays, size, place):
    """Return the pair (place, turned) for a card after pairs (word, rounds), one after another."""
    check_size(size)
    check_place(place, size)
    for word, rounds in plays:
        check_rounds(rounds)
    courses = [(course_of(word, size), rounds) for word, rounds in plays]
    return place_through(courses, size, place)
