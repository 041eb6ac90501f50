"""Point 17: cards followed through many rounds of a word, forwards and back, and through several words."""

import random
import unittest

from pileports.errors import BadRounds, BadSize, NoPlace
from pileports.places import MOST_CARDS
from pileports.rounds import MOST_ROUNDS, after, through
from pileports.ways import walk, way_length
from pileports.words import Word
from tests.helpers import raised
from tests.models import GREAT_REACH, MANY_MOVES, NAMED_WORDS, all_back, drawn_moves, drawn_place, moved_one_by_one
from tests.models import one_round


def states_by_rounds(word, size, most):
    """The dict from the rounds from -most to most to the pairs (place, turned) of all cards."""
    images = moved_one_by_one(word.moves(), size)
    start = [(place, False) for place in range(size)]
    states = {0: start}
    for step, each in ((1, images), (-1, all_back(images))):
        here = start
        for rounds in range(step, step * (most + 1), step):
            here = one_round(here, each)
            states[rounds] = here
    return states


class AfterTest(unittest.TestCase):
    def check(self, word, size, most=40, places=12):
        draw = random.Random(size)
        chosen = range(size) if size <= places else sorted(draw.sample(range(size), places))
        for rounds, states in states_by_rounds(word, size, most).items():
            for place in chosen:
                self.assertEqual(after(word, size, place, rounds), states[place], (str(word), size, place, rounds))

    def test_named_words(self):
        for text in NAMED_WORDS:
            for size in (1, 2, 3, 5, 8, 13):
                self.check(Word.read(text), size)

    def test_great_reach_and_many_moves(self):
        for text in GREAT_REACH + MANY_MOVES:
            word = Word.read(text)
            for size in (word.reach, 2 * word.reach, 2 * word.reach + 9):
                self.check(word, size, 40, 4)

    def test_drawn_words(self):
        draw = random.Random(130)
        for trial in range(40):
            word = Word(*drawn_moves(draw, draw.choice((3, 10)), 20, draw.choice((2, 5, 20))))
            self.check(word, draw.choice((draw.randint(1, 12), draw.randint(12, 60))), 40, 6)

    def test_no_rounds(self):
        for text in NAMED_WORDS + GREAT_REACH:
            for size, place in ((1, 0), (9, 4), (MOST_CARDS, 3), (MOST_CARDS, MOST_CARDS - 1)):
                self.assertEqual(after(Word.read(text), size, place, 0), (place, False))

    def test_great_rounds_in_small_piles(self):
        for text in NAMED_WORDS:
            word = Word.read(text)
            for size in (1, 4, 7):
                images = moved_one_by_one(word.moves(), size)
                start = [(place, False) for place in range(size)]
                states = [start]
                while len(states) == 1 or states[-1] != start:
                    states.append(one_round(states[-1], images))
                states.pop()
                for rounds in (10 ** 30, 10 ** 30 - 1, -10 ** 30, 1 - 10 ** 30, 10 ** 17 + 3, -10 ** 17 - 3):
                    for place in range(size):
                        expected = states[rounds % len(states)][place]
                        self.assertEqual(after(word, size, place, rounds), expected, (text, size, place, rounds))

    def test_named_by_hand(self):
        self.assertEqual(after(Word.read('cut 1'), 10 ** 30, 5, 10 ** 29), (900000000000000000000000000005, False))
        self.assertEqual(after(rounds=10 ** 30, place=5, word=Word.read("cut 1"), size=10 ** 30), (5, False))
        self.assertEqual(after(Word.read("cut 1; face b0"), 10 ** 30, 5, 10 ** 30), (5, True))
        self.assertEqual(after(Word.read("cut 1; face b0"), 10 ** 30, 5, -10 ** 30), (5, True))
        self.assertEqual(after(Word.read("cut 1"), 10 ** 30, 5, -7), (12, False))
        self.assertEqual(after(Word.read("over"), 10 ** 30, 5, 10 ** 30 - 1), (10 ** 30 - 6, True))
        self.assertEqual(after(Word.read("over"), 10 ** 30 - 1, 5 * 10 ** 29 - 1, 3), (5 * 10 ** 29 - 1, True))


class GreatAfterTest(unittest.TestCase):
    def cases(self, seed):
        draw = random.Random(seed)
        texts = NAMED_WORDS + GREAT_REACH + MANY_MOVES
        words = [Word.read(text) for text in texts]
        words += [Word(*drawn_moves(draw, 40, 60, draw.choice((2, 5, 20, 60)))) for trial in range(60)]
        for word in words:
            for size in (MOST_CARDS, draw.randint(121, 10 ** 6), draw.randint(10 ** 20, MOST_CARDS)):
                yield draw, word, size, drawn_place(draw, size, 62)

    def test_one_round(self):
        for draw, word, size, place in self.cases(131):
            self.assertEqual(after(word, size, place, 1), word.image(size, place))
            self.assertEqual(after(word, size, place, -1), word.undone().image(size, place))

    def test_rounds_and_then_more(self):
        for draw, word, size, place in self.cases(132):
            one, other = [draw.randint(-5 * 10 ** 29, 5 * 10 ** 29) for rounds in range(2)]
            middle, turned = after(word, size, place, one)
            last, again = after(word, size, middle, other)
            self.assertEqual(after(word, size, place, one + other), (last, turned != again), (str(word), size, place))
            self.assertEqual(after(word, size, middle, -one), (place, turned))

    def test_the_way_round(self):
        for draw, word, size, place in self.cases(133):
            length, turned = way_length(word, size, place)
            if length <= MOST_ROUNDS:
                self.assertEqual(after(word, size, place, length), (place, turned))
                self.assertEqual(after(word, size, place, -length), (place, turned))

    def test_walks(self):
        for draw, word, size, place in self.cases(134):
            steps = list(walk(word, size, place, many=40))
            for rounds in (0, 1, 2, 17, 39):
                self.assertEqual(after(word, size, place, rounds), steps[rounds])

    def test_undone(self):
        for draw, word, size, place in self.cases(135):
            rounds = draw.randint(-10 ** 30, 10 ** 30)
            self.assertEqual(after(word.undone(), size, place, rounds), after(word, size, place, -rounds))


class AfterErrorsTest(unittest.TestCase):
    def test_the_bound(self):
        self.assertEqual(MOST_ROUNDS, 10 ** 30)
        word = Word.read("cut 1")
        for rounds in (10 ** 30 + 1, -10 ** 30 - 1, 10 ** 40 - 1, -10 ** 40 + 1):
            for size in (1, 5, 10 ** 30):
                self.assertEqual(raised(BadRounds, after, word, size, 0, rounds).rounds, rounds)
                self.assertEqual(raised(BadRounds, through, [(word, rounds)], size, 0).rounds, rounds)
        for rounds in (10 ** 30, -10 ** 30):
            self.assertEqual(after(word, 10 ** 30, 8, rounds), (8, False))

    def test_order_of_errors(self):
        word = Word.read("cut 1")
        for size in (-1, 10 ** 30 + 1):
            self.assertEqual(raised(BadSize, after, word, size, -1, 10 ** 31).size, size)
            self.assertEqual(raised(BadSize, through, [(word, 10 ** 31)], size, -1).size, size)
            self.assertEqual(raised(BadSize, through, [], size, -1).size, size)
        for size, place in ((0, 0), (3, 3), (3, -1), (10 ** 30, 10 ** 30)):
            self.assertEqual(raised(NoPlace, after, word, size, place, 10 ** 31).place, place)
            self.assertEqual(raised(NoPlace, through, [(word, 10 ** 31)], size, place).place, place)
            self.assertEqual(raised(NoPlace, through, [], size, place).place, place)

    def test_the_first_bad_rounds(self):
        word = Word.read("cut 1")
        plays = [(word, 3), (word, 10 ** 30 + 5), (word, -10 ** 30 - 7)]
        self.assertEqual(raised(BadRounds, through, plays, 7, 2).rounds, 10 ** 30 + 5)
        self.assertEqual(raised(BadRounds, through, plays[::-1], 7, 2).rounds, -10 ** 30 - 7)


class ThroughTest(unittest.TestCase):
    def test_no_plays(self):
        self.assertEqual(through([], 5, 3), (3, False))
        self.assertEqual(through((), 10 ** 30, 10 ** 30 - 1), (10 ** 30 - 1, False))

    def test_small_piles(self):
        draw = random.Random(136)
        for trial in range(40):
            size = draw.randint(1, 14)
            plays = [(Word.read(draw.choice(NAMED_WORDS)), draw.randint(-9, 9)) for play in range(draw.randint(1, 60))]
            states = [(place, False) for place in range(size)]
            for word, rounds in plays:
                images = moved_one_by_one(word.moves(), size)
                for step in range(abs(rounds)):
                    states = one_round(states, images if rounds > 0 else all_back(images))
            for place in range(size):
                self.assertEqual(through(plays, size, place), states[place])
                self.assertEqual(through(tuple(plays), size, place), states[place])

    def test_great_piles(self):
        draw = random.Random(137)
        texts = NAMED_WORDS + GREAT_REACH + MANY_MOVES
        for trial in range(20):
            plays = [(Word.read(draw.choice(texts)), draw.randint(-10 ** 30, 10 ** 30)) for play in range(60)]
            size = draw.choice((10 ** 30, draw.randint(1, 10 ** 30)))
            first = place = drawn_place(draw, size, 62)
            odd = False
            for word, rounds in plays:
                place, turned = after(word, size, place, rounds)
                odd = odd != turned
            self.assertEqual(through(plays, size, first), (place, odd))
            back = [(word, -rounds) for word, rounds in reversed(plays)]
            self.assertEqual(through(back, size, place), (first, odd))

    def test_plays_are_not_changed(self):
        plays = [(Word.read("cut 1"), 2), (Word.read("over"), -3)]
        kept = list(plays)
        self.assertEqual(through(place=1, size=6, plays=plays), through(plays, 6, 1))
        self.assertEqual(plays, kept)


if __name__ == "__main__":
    unittest.main()
