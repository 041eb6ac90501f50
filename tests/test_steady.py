"""Point 11, and point 10 on words: the form of a word, and the size from which on the word is its play."""

import random
import unittest

from pileports.forms import Form
from pileports.steady import form_of, steady_from
from pileports.words import Word
from tests.models import drawn_moves, model_reach, moved_one_by_one, moves_within


def model_steady(word, form):
    """The steady size by comparing all sizes up to some beyond twice the reach, all cards moved one by one."""
    least = form.least
    for size in range(form.least, 2 * word.reach + 8):
        if moved_one_by_one(word.moves(), size) != form.listed(size):
            least = size + 1
    return least


class FormOfTest(unittest.TestCase):
    def test_named_by_hand(self):
        self.assertEqual(str(form_of(Word.read("carry t0 b1"))), "still -1 t0>b1 | b0>b0")
        self.assertEqual(form_of(Word()), Form.still())
        self.assertEqual(form_of(word=Word.read("over; over")), Form.still())

    def test_form_of_the_moves(self):
        draw = random.Random(90)
        for trial in range(60):
            word = Word(*drawn_moves(draw, 40, 60, draw.choice((2, 6, 60))))
            kept = word.moves()
            self.assertEqual(form_of(word), Form.of(word.moves()))
            self.assertEqual(word.moves(), kept)

    def test_sums(self):
        draw = random.Random(91)
        for trial in range(60):
            one, other = [Word(*drawn_moves(draw, 20, 30, 5)) for word in range(2)]
            self.assertEqual(form_of(one + other), form_of(one) * form_of(other))
            self.assertEqual(form_of(one.undone()), form_of(one).inverse())


class SteadyTest(unittest.TestCase):
    def check(self, word):
        form = form_of(word)
        steady = steady_from(word)
        self.assertEqual(steady, model_steady(word, form), str(word))
        self.assertLessEqual(steady, 2 * word.reach)
        self.assertGreaterEqual(steady, form.least)

    def test_named_by_hand(self):
        for text, steady in (("", 0), ("over", 0), ("swap t0 b2", 4), ("face t0", 1), ("face t0; over", 1), ("cut 0", 0),
                             ("turn t 3", 3), ("swap t0 t1", 2), ("carry t0 b0", 1), ("swap t1 b1", 4)):
            self.assertEqual(steady_from(Word.read(text)), steady, text)
        self.assertEqual(steady_from(word=Word.read("swap t0 b2")), 4)

    def test_the_least_size_of_the_form_or_greater(self):
        word = Word.read("face t0; turn t 3; turn t 3; face t0")
        self.assertEqual((form_of(word).least, steady_from(word)), (0, 0))
        # Piles of one or two cards are too small for the first three moves, but not for the last one.
        word = Word.read("swap t0 t2; face t2; swap t0 t2; face t0")
        self.assertEqual((form_of(word).least, steady_from(word)), (0, 3))
        # A form is no play below its least size.
        word = Word.read("swap t0 b2")
        self.assertEqual((form_of(word).least, steady_from(word)), (4, 4))

    def test_each_move(self):
        for move in moves_within(4):
            self.check(Word(move))

    def test_pairs_of_moves(self):
        moves = moves_within(2)
        for one in moves:
            for other in moves:
                self.check(Word(one, other))

    def test_drawn_words(self):
        draw = random.Random(92)
        for trial in range(80):
            moves, reach, depth = draw.choice(((3, 20, 8), (40, 40, 2), (10, 30, 4), (4, 60, 30)))
            self.check(Word(*drawn_moves(draw, moves, reach, depth)))

    def test_the_greatest_reach(self):
        for text in ("turn t 60", "cut 60", "cut -60", "swap t0 b59", "carry t59 b59", "cut 30; cut -30",
                     "swap t29 b29; swap b29 t29", "carry t0 b29; turn b 30"):
            word = Word.read(text)
            self.assertEqual(word.reach, 60)
            self.check(word)

    def test_words_undone(self):
        draw = random.Random(93)
        for trial in range(40):
            word = Word(*drawn_moves(draw, 8, 12, 3))
            self.check(word + word.undone())

    def test_model_reach(self):
        draw = random.Random(94)
        for trial in range(20):
            word = Word(*drawn_moves(draw, 40, 60, 6))
            self.assertEqual(word.reach, sum(map(model_reach, word.moves())))


if __name__ == "__main__":
    unittest.main()
