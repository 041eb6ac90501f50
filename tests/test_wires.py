"""Point 16: the lengths of the ways at all sizes of a shifted word, and the steady order of the other words."""

import math
import random
import unittest

from pileports.errors import NoShift, Shifted
from pileports.places import MOST_CARDS
from pileports.steady import form_of, steady_from
from pileports.ways import census, order
from pileports.wires import families, steady_order
from pileports.words import Word
from tests.helpers import raised
from tests.models import GREAT_REACH, MANY_MOVES, NAMED_WORDS, drawn_moves, model_census, model_order, moved_one_by_one


def is_shifted(word):
    form = form_of(word)
    return not form.turned and form.shift != 0


def census_by_families(word, found, size):
    """The census that families gives for a size."""
    quotient, remainder = divmod(size - form_of(word).least, abs(form_of(word).shift))
    counted = {}
    for a, b, turned in found[remainder]:
        kind = (a + b * quotient, turned)
        counted[kind] = counted.get(kind, 0) + 1
    return sorted((length, turned, many) for (length, turned), many in counted.items())


class FamiliesTest(unittest.TestCase):
    def check(self, word, great=2):
        found = families(word)
        shift, steady = abs(form_of(word).shift), steady_from(word)
        self.assertIsInstance(found, list)
        self.assertEqual(len(found), shift)
        for ways in found:
            self.assertIsInstance(ways, list)
            self.assertEqual(ways, sorted(ways))
            # All places that one more of the quotient brings are on ways.
            self.assertEqual(sum(b for a, b, turned in ways), shift)
        # From the steady size on, two of the quotient and more.
        for size in range(steady, max(steady, form_of(word).least) + 2 * shift + 2):
            images = moved_one_by_one(word.moves(), size)
            self.assertEqual(census_by_families(word, found, size), model_census(images), (str(word), size))
        draw = random.Random(120)
        for trial in range(great):
            for size in (draw.randint(10 ** 6, MOST_CARDS), MOST_CARDS - trial):
                self.assertEqual(census_by_families(word, found, size), census(word, size), (str(word), size))

    def test_named_words(self):
        words = [Word.read(text) for text in NAMED_WORDS]
        for word in words:
            if is_shifted(word):
                self.check(word, 10)
        self.assertGreater(sum(map(is_shifted, words)), 10)

    def test_great_reach_and_many_moves(self):
        for text in GREAT_REACH + MANY_MOVES:
            if is_shifted(Word.read(text)):
                self.check(Word.read(text))

    def test_drawn_words(self):
        draw = random.Random(121)
        seen = 0
        while seen < 60:
            word = Word(*drawn_moves(draw, draw.choice((3, 10)), draw.choice((12, 30)), draw.choice((3, 6, 20))))
            if is_shifted(word):
                seen += 1
                self.check(word)

    def test_named_by_hand(self):
        self.assertEqual(families(Word.read("cut -2")), [[(1, 1, False), (1, 1, False)], [(3, 2, False)]])
        self.assertEqual(families(word=Word.read("cut 1")), [[(1, 1, False)]])
        self.assertEqual(families(Word.read("cut -1; face t0")), [[(1, 1, True)]])
        self.assertEqual(families(Word.read("cut -1; face b0")), [[(2, 1, True)]])

    def test_least_sizes_below_the_steady_size(self):
        # A card of the first move's kind: the word is another play in the pile that is too small for it.
        word = Word.read("cut 1; swap t0 b3; swap t0 b3")
        self.assertGreater(steady_from(word), 0)
        self.check(word)

    def test_new_lists(self):
        word = Word.read("cut -2")
        found = families(word)
        found[0].clear()
        found.append(None)
        self.assertEqual(families(word), [[(1, 1, False), (1, 1, False)], [(3, 2, False)]])

    def test_no_shift(self):
        for text in ("", "over", "face t0", "over; cut 3", "cut 1; over", "cut 2; cut -2", "swap t0 b0", "turn t 5",
                     "carry t0 b0; carry b0 t0"):
            raised(NoShift, families, Word.read(text))


class SteadyOrderTest(unittest.TestCase):
    def check(self, word, more=8):
        top = max(2 * word.reach, 2 * form_of(word).least + abs(form_of(word).shift)) + more
        orders = [model_order(moved_one_by_one(word.moves(), size)) for size in range(top)]
        self.assertEqual(steady_order(word), math.lcm(*orders), str(word))

    def test_named_words(self):
        words = [Word.read(text) for text in NAMED_WORDS]
        for word in words:
            if not is_shifted(word):
                self.check(word)
        self.assertGreater(sum(not is_shifted(word) for word in words), 10)

    def test_drawn_words(self):
        draw = random.Random(122)
        seen = 0
        while seen < 60:
            word = Word(*drawn_moves(draw, draw.choice((3, 10)), draw.choice((6, 14)), draw.choice((2, 6))))
            if not is_shifted(word):
                seen += 1
                self.check(word)

    def test_great_reach_and_many_moves(self):
        for text in ("over; cut 60", "turn b 59; face t0", "swap t59 b59", "over; turn t 30; cut 30", *MANY_MOVES[-2:]):
            if not is_shifted(Word.read(text)):
                self.check(Word.read(text))

    def test_sizes_below_the_steady_size(self):
        # Only the pile of 13 cards needs three rounds, or a multiple of them.
        word = Word.read("over; swap t6 b1")
        self.assertEqual([size for size in range(60) if order(word, size) % 3 == 0], [13])
        self.check(word)
        self.assertEqual(steady_order(word) % 3, 0)

    def test_all_sizes_are_back(self):
        draw = random.Random(123)
        for text in NAMED_WORDS + GREAT_REACH + MANY_MOVES:
            word = Word.read(text)
            if not is_shifted(word):
                found = steady_order(word)
                for size in (1, 7, 60, 121, 240, draw.randint(241, MOST_CARDS), MOST_CARDS, MOST_CARDS - 1):
                    self.assertEqual(found % order(word, size), 0, (text, size))

    def test_named_by_hand(self):
        self.assertEqual(steady_order(Word()), 1)
        self.assertEqual(steady_order(Word.read("over")), 2)
        self.assertEqual(steady_order(word=Word.read("over; face t0")), 4)
        self.assertEqual(steady_order(Word.read("swap t0 t1; swap t1 t2")), 6)
        # Its form is the one of no moves, but piles of two cards are too small for all but the last move.
        self.assertEqual(steady_order(Word.read("swap t0 t2; face t2; swap t0 t2; face t0")), 2)

    def test_shifted(self):
        for text in ("cut 1", "cut -60", "carry t0 b0", "carry b1 t1", "over; cut 1; over", "turn t 3; cut 2"):
            raised(Shifted, steady_order, Word.read(text))


if __name__ == "__main__":
    unittest.main()
