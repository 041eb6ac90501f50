"""Points 3 and 6: the images and plays of words of several moves, their sums, and the words that undo them."""

import random
import unittest

from pileports.errors import BadSize, NoPlace, TooGreat
from pileports.words import Word
from tests.helpers import raised
from tests.models import RunPile, drawn_moves, drawn_place, model_reach, moved_one_by_one, moves_within


def drawn_words(seed, many):
    """Drawn words: some of few deep moves, some of many short ones."""
    draw = random.Random(seed)
    for trial in range(many):
        moves, reach, depth = draw.choice(((2, 60, 60), (4, 60, 20), (6, 12, 3), (6, 60, 8), (40, 60, 2), (40, 20, 1)))
        yield Word(*drawn_moves(draw, moves, reach, depth))


def images(word, size):
    return [word.image(size, place) for place in range(size)]


class PlayTest(unittest.TestCase):
    def check(self, word, size):
        expected = moved_one_by_one(word.moves(), size)
        self.assertEqual(word.play(size), expected, (str(word), size))
        self.assertEqual(images(word, size), expected, (str(word), size))

    def test_named_by_hand(self):
        self.assertEqual(Word.read("cut 1; over").play(3), [(0, True), (2, True), (1, True)])
        self.assertEqual(Word.read("over; cut 1").play(3), [(1, True), (0, True), (2, True)])
        self.assertEqual(Word.read("face t0; cut 1; face b0").play(3), [(2, False), (0, False), (1, False)])
        self.assertEqual(Word.read("turn t 2; carry t0 b0").play(3), [(0, True), (2, True), (1, False)])
        self.assertEqual(Word.read("").play(2), [(0, False), (1, False)])

    def test_no_cards_and_one_card(self):
        for text in ("", "over", "cut 1", "face t0", "over; face b0; cut -1", "turn b 1; turn t 1; over"):
            self.assertEqual(Word.read(text).play(0), [])
            self.check(Word.read(text), 0)
            self.check(Word.read(text), 1)
        self.assertEqual(Word.read("over; face b0; face t0").play(1), [(0, True)])

    def test_pairs_of_moves(self):
        moves = moves_within(2)
        for one in moves:
            for other in moves:
                for size in range(6):
                    self.check(Word(one, other), size)

    def test_drawn_words_around_their_reaches(self):
        for word in drawn_words(30, 150):
            sizes = {0, 1, word.reach, 2 * word.reach, 2 * word.reach + 1}
            for move in word.moves():
                sizes |= {max(0, model_reach(move) - 1), model_reach(move), model_reach(move) + 1}
            for size in sorted(sizes):
                self.check(word, size)

    def test_a_move_that_is_too_great_is_left_out(self):
        word = Word.read("face t0; swap t0 b4; cut 1; turn b 5; face b0")
        for size in (1, 2, 4):
            self.assertEqual(word.play(size), Word.read("face t0; cut 1; face b0").play(size))
        self.assertNotEqual(word.play(5), Word.read("face t0; cut 1; face b0").play(5))

    def test_each_move_decides_by_its_own_reach(self):
        # The reach of the word is 12, but each of its moves needs just 3 cards.
        word = Word.read("turn t 3; cut -3; face b2; swap t2 b0")
        for size in (3, 4, 7, 11):
            self.assertNotEqual(word.play(size), Word().play(size))
            self.check(word, size)
        self.assertEqual(word.play(2), Word().play(2))

    def test_many_cards(self):
        for word in list(drawn_words(31, 4)):
            self.check(word, 999)
            self.check(word, 1000)

    def test_kinds_of_values(self):
        for word in drawn_words(32, 10):
            for place, turned in word.play(9):
                self.assertIs(type(place), int)
                self.assertIs(type(turned), bool)
            for image in images(word, 9):
                self.assertEqual([type(image), type(image[0]), type(image[1])], [tuple, int, bool])

    def test_names_and_equal_calls(self):
        word = Word.read("over; cut 2")
        self.assertEqual(word.image(place=1, size=9), word.image(9, 1))
        self.assertEqual(word.play(size=9), word.play(9))


class GreatPilesTest(unittest.TestCase):
    def test_named_by_hand(self):
        size = 10 ** 30
        self.assertEqual(Word.read("cut 1; over").image(size, 0), (0, True))
        self.assertEqual(Word.read("cut 7; cut -9; over").image(size, 5), (size - 8, True))
        self.assertEqual(Word.read("over; over; face t0").image(size, 0), (0, True))
        self.assertEqual(Word.read("carry t0 b0; carry t0 b0").image(size, 10 ** 29), (10 ** 29 - 2, False))
        self.assertEqual(Word.read("").image(size, size - 1), (size - 1, False))

    def test_drawn_places(self):
        draw = random.Random(33)
        for word in drawn_words(34, 400):
            size = draw.choice((10 ** 30, draw.randint(1, 10 ** 30), 10 ** draw.randint(2, 29), draw.randint(1, 150)))
            pile = RunPile(size)
            for move in word.moves():
                pile.play(move)
            for trial in range(5):
                place = drawn_place(draw, size, 70)
                self.assertEqual(word.image(size, place), pile.find(place), (str(word), size, place))


class SumTest(unittest.TestCase):
    def test_one_and_then_the_other(self):
        draw = random.Random(35)
        for trial in range(150):
            one, other = [Word(*drawn_moves(draw, 20, 30, draw.choice((2, 8, 30)))) for word in range(2)]
            for size in (1, 2, 3, draw.randint(0, 30), draw.randint(0, 130)):
                first, second = one.play(size), other.play(size)
                expected = [(second[place][0], turned != second[place][1]) for place, turned in first]
                self.assertEqual((one + other).play(size), expected)

    def test_the_order_matters(self):
        one, other = Word.read("cut 1"), Word.read("face t0")
        self.assertEqual((one + other).play(2), [(1, False), (0, True)])
        self.assertEqual((other + one).play(2), [(1, True), (0, False)])


class UndoneTest(unittest.TestCase):
    def check(self, word, back, size):
        if len(word) <= 20 and word.reach <= 30:
            self.assertEqual((word + back).play(size), Word().play(size), (str(word), size))
            self.assertEqual((back + word).play(size), Word().play(size), (str(word), size))
        for place in range(size):
            for one, other in ((word, back), (back, word)):
                goal, turned = one.image(size, place)
                self.assertEqual(other.image(size, goal), (place, turned), (str(one), size))

    def test_each_small_size(self):
        for word in drawn_words(36, 40):
            for size in range(14):
                self.check(word, word.undone(), size)

    def test_pairs_of_moves(self):
        moves = moves_within(2)
        for one in moves:
            for other in moves:
                word = Word(one, other)
                for size in range(6):
                    self.check(word, word.undone(), size)

    def test_great_piles(self):
        draw = random.Random(37)
        for word in drawn_words(38, 200):
            size = draw.choice((10 ** 30, draw.randint(1, 10 ** 30), draw.randint(1, 200)))
            place = drawn_place(draw, size, 70)
            goal, turned = word.image(size, place)
            self.assertEqual(word.undone().image(size, goal), (place, turned))


class ErrorsTest(unittest.TestCase):
    WORDS = ["", "over", "cut 1; face t58", "swap t0 b9; turn t 40"]

    def test_bad_size(self):
        for text in self.WORDS:
            word = Word.read(text)
            for size in (-1, -(10 ** 30), 10 ** 30 + 1, 10 ** 39):
                for place in (0, -1, size, 10 ** 39):
                    self.assertEqual(raised(BadSize, word.image, size, place).size, size)
                self.assertEqual(raised(BadSize, word.play, size).size, size)

    def test_no_place(self):
        for text in self.WORDS:
            word = Word.read(text)
            for size, place in ((0, 0), (0, -1), (1, 1), (1, -1), (5, 5), (5, -5), (10 ** 30, 10 ** 30), (7, 10 ** 39)):
                self.assertEqual(raised(NoPlace, word.image, size, place).place, place)

    def test_too_great(self):
        for text in self.WORDS:
            word = Word.read(text)
            for size in (1001, 1002, 10 ** 30):
                self.assertEqual(raised(TooGreat, word.play, size).limit, 1000)
            self.assertEqual(len(word.play(1000)), 1000)

    def test_the_greatest_size(self):
        self.assertEqual(Word.read("over").image(10 ** 30, 10 ** 30 - 1), (0, True))
        self.assertEqual(Word.read("cut 1").image(10 ** 30, 0), (10 ** 30 - 1, False))


if __name__ == "__main__":
    unittest.main()
