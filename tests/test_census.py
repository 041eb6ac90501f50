"""Point 15, and with point 6 joined and undone words: the census of the ways, the order, and which words are even."""

import itertools
import math
import random
import unittest

from pileports.errors import BadSize
from pileports.places import MOST_CARDS
from pileports.ways import census, is_even, order, way, way_length
from pileports.words import Word
from tests.helpers import raised
from tests.models import GREAT_REACH, MANY_MOVES, NAMED_WORDS, drawn_moves, model_census, model_even, model_order
from tests.models import model_reach, moved_one_by_one, moves_within

GREAT = (MOST_CARDS, MOST_CARDS - 1, MOST_CARDS - 57, 10 ** 12 + 7, 1000, 201)


def sizes_around(word):
    """Sizes around the sums of reaches of a word's moves, and around the sizes from which on its form holds."""
    sizes = {0, 1, 2, 3}
    for many in range(len(word) + 1):
        reach = sum(model_reach(move) for move in word.moves()[:many])
        sizes |= {reach - 1, reach, reach + 1}
    for times in (2, 3, 4):
        sizes |= {times * word.reach + more for more in (-1, 0, 1, 2)}
    return sorted(size for size in sizes if size >= 0)


def counted_by_turn(found):
    return {(length, turned): many for length, turned, many in found}


class SmallCensusTest(unittest.TestCase):
    def check(self, word, sizes):
        for size in sizes:
            images = moved_one_by_one(word.moves(), size)
            found = census(word, size)
            self.assertEqual(found, model_census(images), (str(word), size))
            self.assertEqual(order(word, size), model_order(images), (str(word), size))
            self.assertEqual(is_even(word, size), model_even(images), (str(word), size))

    def test_named_words(self):
        for text in NAMED_WORDS:
            self.check(Word.read(text), range(26))

    def test_each_move(self):
        for move in moves_within(3):
            self.check(Word(move), range(16))

    def test_drawn_words(self):
        draw = random.Random(110)
        for trial in range(60):
            word = Word(*drawn_moves(draw, draw.choice((3, 6)), 20, draw.choice((2, 5, 20))))
            self.check(word, sizes_around(word))

    def test_great_reach(self):
        for text in GREAT_REACH + MANY_MOVES[:4]:
            word = Word.read(text)
            self.check(word, (0, 1, 2, 30, 59, 60, 61, 119, 120, 121, 122, 150, 179, 180, 181))

    def test_all_sizes_around_twice_the_reach(self):
        draw = random.Random(116)
        for trial in range(30):
            word = Word(*drawn_moves(draw, 6, 12, draw.choice((3, 6, 12))))
            self.check(word, range(2 * word.reach - 2 if word.reach else 0, 2 * word.reach + 3))

    def test_piles_of_no_card_and_of_one(self):
        for text in NAMED_WORDS + GREAT_REACH + MANY_MOVES:
            word = Word.read(text)
            self.assertEqual((census(word, 0), order(word, 0), is_even(word, 0)), ([], 1, True))
            turned = word.image(1, 0)[1]
            self.assertEqual(census(word, 1), [(1, turned, 1)])
            self.assertEqual((order(word, 1), is_even(word, 1)), (2 if turned else 1, True))

    def test_named_by_hand(self):
        self.assertEqual(census(Word.read("over"), 5), [(1, True, 1), (2, False, 2)])
        self.assertEqual(census(size=6, word=Word.read("over")), [(2, False, 3)])
        self.assertEqual(census(Word.read("cut 2"), 6), [(3, False, 2)])
        # One way is turned, so twice its length is needed.
        self.assertEqual(order(Word.read("cut 1; face t0"), 5), 10)
        self.assertEqual(order(size=5, word=Word.read("cut 1")), 5)
        self.assertEqual(order(Word.read("face t0"), 5), 2)
        self.assertEqual(order(Word.read("over; face t0"), 4), 4)
        self.assertFalse(is_even(Word.read("swap t0 t1"), 5))
        self.assertTrue(is_even(Word.read("swap t0 t1"), 1))
        self.assertTrue(is_even(size=5, word=Word.read("face t0")))
        self.assertFalse(is_even(Word.read("cut 1"), 10 ** 30))
        self.assertTrue(is_even(Word.read("cut 1"), 10 ** 30 - 1))


class GreatCensusTest(unittest.TestCase):
    def check(self, word, size):
        found = census(word, size)
        text = (str(word), size)
        self.assertEqual(found, sorted(found), text)
        counted = counted_by_turn(found)
        self.assertEqual(len(counted), len(found), text)
        self.assertTrue(all(many > 0 for many in counted.values()), text)
        self.assertEqual(sum(length * many for length, turned, many in found), size, text)
        self.assertEqual(order(word, size), math.lcm(*[length * (1 + turned) for length, turned in counted]), text)
        self.assertEqual(is_even(word, size), (size - sum(counted.values())) % 2 == 0, text)
        near = 2 * word.reach + 5
        # The ways that come near an end: each one is counted once, by the least of its places.
        firsts = {}
        for place in [*range(near), *range(size - near, size)]:
            pieces = way(word, size, place)
            least = min(min(first, first + step * (count - 1)) for first, step, count, turned in pieces)
            firsts[least] = way_length(word, size, place)
            self.assertIn(way_length(word, size, place), counted, text)
        for kind in set(firsts.values()):
            self.assertLessEqual(list(firsts.values()).count(kind), counted[kind], text)

    def test_named_words(self):
        for text in NAMED_WORDS:
            for size in GREAT:
                self.check(Word.read(text), size)

    def test_great_reach_and_many_moves(self):
        for text in GREAT_REACH + MANY_MOVES:
            for size in (GREAT[0], GREAT[2]):
                self.check(Word.read(text), size)

    def test_drawn_words(self):
        draw = random.Random(111)
        for trial in range(40):
            word = Word(*drawn_moves(draw, 40, 60, draw.choice((2, 6, 40))))
            self.check(word, draw.choice((draw.choice(GREAT), draw.randint(10 ** 9, MOST_CARDS))))

    def test_named_by_hand(self):
        self.assertEqual(census(Word(), 10 ** 30), [(1, False, 10 ** 30)])
        self.assertEqual(census(Word.read("over"), 10 ** 30), [(2, False, 5 * 10 ** 29)])
        self.assertEqual(census(Word.read("over"), 10 ** 30 - 1), [(1, True, 1), (2, False, 5 * 10 ** 29 - 1)])
        self.assertEqual(census(Word.read("cut 60"), 10 ** 30), [(10 ** 30 // 20, False, 20)])
        self.assertEqual(order(Word.read("cut 50; face t0"), 10 ** 30), 4 * 10 ** 28)
        self.assertEqual(census(Word.read("face t0; swap t1 b1"), 10 ** 30),
                         [(1, False, 10 ** 30 - 3), (1, True, 1), (2, False, 1)])
        # Swaps are odd at every size that holds them, and a pile that is turned over has half its size as exchanges.
        self.assertFalse(is_even(Word.read("swap t3 b9"), 10 ** 30))
        self.assertTrue(is_even(Word.read("over"), 10 ** 30))
        self.assertFalse(is_even(Word.read("over"), 10 ** 30 - 2))


class JoinedWordsTest(unittest.TestCase):
    def words(self, seed, many):
        draw = random.Random(seed)
        for trial in range(many):
            depth = draw.choice((2, 5, 20))
            one, other = [Word(*drawn_moves(draw, 10, 30, depth)) for word in range(2)]
            sizes = (draw.randint(0, 20), draw.randint(20, 130), draw.randint(10 ** 6, MOST_CARDS))
            for size in sizes:
                yield one, other, size

    def test_joined_in_either_order(self):
        for one, other, size in self.words(112, 60):
            for call in (census, order, is_even):
                self.assertEqual(call(one + other, size), call(other + one, size), (str(one), str(other), size))

    def test_evenness_of_sums(self):
        for one, other, size in self.words(113, 60):
            self.assertEqual(is_even(one + other, size), is_even(one, size) == is_even(other, size))

    def test_undone(self):
        for one, other, size in self.words(114, 60):
            for call in (census, order, is_even):
                self.assertEqual(call(one.undone(), size), call(one, size), (str(one), size))

    def test_a_word_twice(self):
        for one, other, size in self.words(115, 60):
            expected = {}
            for length, turned, many in census(one, size):
                if length % 2 == 1:
                    kind, ways = (length, False), many
                else:
                    kind, ways = (length // 2, turned), 2 * many
                expected[kind] = expected.get(kind, 0) + ways
            self.assertEqual(counted_by_turn(census(one + one, size)), expected, (str(one), size))

    def test_the_order_is_the_first_time_that_all_cards_are_back(self):
        for text in NAMED_WORDS:
            word = Word.read(text)
            for size in (1, 2, 3, 5):
                images = moved_one_by_one(word.moves(), size)
                start = [(place, False) for place in range(size)]
                states = start
                for rounds in itertools.count(1):
                    states = [(images[place][0], turned != images[place][1]) for place, turned in states]
                    if states == start:
                        break
                self.assertEqual(order(word, size), rounds, (text, size))


class CensusErrorsTest(unittest.TestCase):
    def test_bad_sizes(self):
        for call in (census, order, is_even):
            for size in (-1, -10 ** 30, 10 ** 30 + 1, 10 ** 40 - 1):
                self.assertEqual(raised(BadSize, call, Word.read("cut 1"), size).size, size)

    def test_new_lists(self):
        word = Word.read("cut 1; face t0")
        found = census(word, 9)
        found.append(None)
        self.assertEqual(census(word, 9), [(9, True, 1)])


if __name__ == "__main__":
    unittest.main()
