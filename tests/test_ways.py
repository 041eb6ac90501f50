"""Point 14: ways in small piles, whose cards are moved one by one, and in great ones; lengths and walks."""

import random
import unittest

from pileports.errors import BadSize, NoPlace, TooGreat
from pileports.places import MOST_CARDS
from pileports.ways import walk, way, way_length
from pileports.words import Word
from tests.helpers import raised
from tests.models import GREAT_REACH, MANY_MOVES, NAMED_WORDS, drawn_moves, drawn_place
from tests.models import model_length, model_way, moved_one_by_one, moves_within

GREAT = (MOST_CARDS, MOST_CARDS - 1, MOST_CARDS - 2, MOST_CARDS - 57, 10 ** 12 + 7, 1000, 200)


def unrolled(pieces):
    """The pairs (place, turned on leaving it) of all places of pieces, in order."""
    steps = []
    for first, step, count, turned in pieces:
        steps += [(first + step * index, False) for index in range(count)]
        steps[-1] = (steps[-1][0], turned)
    return steps


def sizes_for(word):
    """Sizes below the reach of a word, around it, around twice the reach, and above it."""
    reach = word.reach
    sizes = {1, 2, 3, 4, reach // 2, reach - 1, reach, reach + 1, 2 * reach - 1, 2 * reach, 2 * reach + 1, 3 * reach,
             4 * reach - 1, 4 * reach, 4 * reach + 1, 4 * reach + 6}
    return sorted(size for size in sizes if size > 0)


class SmallWaysTest(unittest.TestCase):
    def check(self, word, sizes, most_places=30):
        for size in sizes:
            images = moved_one_by_one(word.moves(), size)
            places = range(size)
            if size > most_places:
                places = [*range(most_places // 2), *range(size - most_places // 2, size)]
            for place in places:
                expected = model_way(images, place)
                pieces = way(word, size, place)
                self.assertEqual(unrolled(pieces), expected, (str(word), size, place))
                self.assertLessEqual(len(pieces), 1000)
                self.assertEqual(way_length(word, size, place), model_length(expected))

    def test_named_words(self):
        for text in NAMED_WORDS:
            self.check(Word.read(text), range(1, 26))

    def test_each_move(self):
        for move in moves_within(3):
            self.check(Word(move), range(1, 16))

    def test_drawn_words(self):
        draw = random.Random(100)
        for trial in range(80):
            word = Word(*drawn_moves(draw, draw.choice((3, 8, 40)), draw.choice((8, 20, 60)), draw.choice((2, 5, 20))))
            self.check(word, sizes_for(word), 16)

    def test_great_reach(self):
        for text in GREAT_REACH + MANY_MOVES:
            word = Word.read(text)
            self.check(word, sizes_for(word), 12)

    def test_kinds(self):
        pieces = way(Word.read("cut -1; face t0"), 100, 7)
        self.assertIsInstance(pieces, list)
        for piece in pieces:
            self.assertIsInstance(piece, tuple)
            self.assertEqual([type(item) for item in piece], [int, int, int, bool])
        self.assertIsInstance(way_length(Word(), 3, 0), tuple)


class GreatWaysTest(unittest.TestCase):
    def check_pieces(self, word, size, place):
        pieces = way(word, size, place)
        self.assertTrue(1 <= len(pieces) <= 1000)
        self.assertEqual(pieces[0][0], place)
        for at, (first, step, count, turned) in enumerate(pieces):
            self.assertGreaterEqual(count, 1)
            behind = pieces[at + 1][0] if at + 1 < len(pieces) else place
            for index in {0, 1, 2, count // 2, count - 3, count - 2, count - 1}:
                if 0 <= index < count:
                    expected = (behind, turned) if index == count - 1 else (first + step * (index + 1), False)
                    self.assertEqual(word.image(size, first + step * index), expected, (str(word), size, place))
            if at > 0 or count > 1:
                index, rest = divmod(place - first, step)
                self.assertTrue(at == index == 0 or rest != 0 or not 0 <= index < count, (str(word), size, place))
        length, turned = way_length(word, size, place)
        self.assertEqual(length, sum(count for first, step, count, turned in pieces))
        self.assertEqual(turned, sum(turned for first, step, count, turned in pieces) % 2 == 1)
        return pieces, (length, turned)

    def check(self, word, size, place, draw):
        pieces, found = self.check_pieces(word, size, place)
        for trial in range(3):
            first, step, count, turned = draw.choice(pieces)
            other = first + step * draw.randrange(count)
            self.assertEqual(self.check_pieces(word, size, other)[1], found, (str(word), size, place, other))

    def test_named_words(self):
        draw = random.Random(101)
        for text in NAMED_WORDS + GREAT_REACH + MANY_MOVES:
            for size in GREAT:
                for trial in range(3):
                    self.check(Word.read(text), size, drawn_place(draw, size, 62), draw)

    def test_drawn_words(self):
        draw = random.Random(102)
        for trial in range(150):
            word = Word(*drawn_moves(draw, 40, 60, draw.choice((2, 5, 20, 60))))
            size = draw.choice((draw.choice(GREAT), draw.randint(121, 10 ** 6), draw.randint(10 ** 9, MOST_CARDS)))
            for again in range(3):
                self.check(word, size, drawn_place(draw, size, 62), draw)

    def test_named_by_hand(self):
        word = Word.read("cut 1")
        self.assertEqual(way_length(word, 10 ** 30, 0), (10 ** 30, False))
        self.assertEqual(way_length(Word.read("cut 1; face t0"), 10 ** 30, 77), (10 ** 30, True))
        self.assertEqual(way_length(Word.read("cut 2"), 10 ** 30, 77), (10 ** 30 // 2, False))
        self.assertEqual(way_length(Word.read("cut 2"), 10 ** 30 - 1, 77), (10 ** 30 - 1, False))
        self.assertEqual(way_length(Word.read("over"), 10 ** 30, 77), (2, False))
        self.assertEqual(way_length(Word.read("over"), 10 ** 30 - 1, 5 * 10 ** 29 - 1), (1, True))
        self.assertEqual(way_length(Word(), 10 ** 30, 77), (1, False))
        self.assertEqual(way_length(place=3, size=5, word=word), (5, False))

    def test_unchanged(self):
        word = Word.read("cut 1; face t0")
        kept = word.moves()
        one = way(place=3, word=word, size=10 ** 20)
        other = way(word, 10 ** 20, 3)
        self.assertEqual(one, other)
        one.clear()
        self.assertEqual(way(word, 10 ** 20, 3), other)
        self.assertEqual(word.moves(), kept)


class WayErrorsTest(unittest.TestCase):
    def test_bad_sizes_ahead_of_places(self):
        word = Word.read("cut 1")
        for call in (way, way_length):
            for size in (-1, -10 ** 30, 10 ** 30 + 1, 10 ** 40 - 1):
                for place in (-1, 0, 10 ** 31):
                    self.assertEqual(raised(BadSize, call, word, size, place).size, size)

    def test_no_places(self):
        word = Word.read("cut 1")
        for call in (way, way_length):
            for size, place in ((0, 0), (0, -1), (1, 1), (5, 5), (5, -1), (10 ** 30, 10 ** 30), (10 ** 30, -10 ** 30)):
                self.assertEqual(raised(NoPlace, call, word, size, place).place, place)


class WalkTest(unittest.TestCase):
    def model(self, word, size, place, many):
        images = moved_one_by_one(word.moves(), size)
        steps, turned = [], False
        for step in range(many):
            steps.append((place, turned))
            place, flipped = images[place]
            turned = turned != flipped
        return steps

    def test_small_piles(self):
        draw = random.Random(103)
        for text in NAMED_WORDS:
            word = Word.read(text)
            for size in (1, 2, 3, 5, 8, 13):
                place = draw.randrange(size)
                self.assertEqual(list(walk(word, size, place)), self.model(word, size, place, 10), (text, size, place))
                for many in (0, 1, 2, 9, 11, 50):
                    found = list(walk(word, size, place, many=many))
                    self.assertEqual(found, self.model(word, size, place, many), (text, size, place))

    def test_great_piles(self):
        draw = random.Random(104)
        for text in GREAT_REACH + MANY_MOVES + NAMED_WORDS:
            word = Word.read(text)
            for size in GREAT[:4]:
                place = drawn_place(draw, size, 62)
                expected, here, turned = [], place, False
                for step in range(30):
                    expected.append((here, turned))
                    here, flipped = word.image(size, here)
                    turned = turned != flipped
                self.assertEqual(list(walk(many=30, word=word, place=place, size=size)), expected)

    def test_how_many(self):
        word = Word.read("cut -1")
        self.assertEqual(list(walk(word, 7, 0, many=0)), [])
        self.assertEqual(len(list(walk(word, 7, 0))), 10)
        self.assertEqual(list(walk(word, 1500, 0, many=1000)), [(place, False) for place in range(1000)])
        for many in (1001, 1002, 10 ** 30, -1, -1000, -10 ** 30):
            steps = walk(word, 7, 0, many=many)
            self.assertEqual(raised(TooGreat, next, steps).limit, 1000)

    def test_many_is_passed_by_keyword_only(self):
        with self.assertRaises(TypeError):
            walk(Word(), 7, 0, 5)

    def test_errors_come_with_the_first_item(self):
        word = Word.read("cut 1")
        for size, place, many, error in ((-1, -1, -1, BadSize), (10 ** 30 + 1, 0, 10, BadSize), (3, 3, 1001, NoPlace),
                                         (0, 0, 0, NoPlace), (3, -1, 10, NoPlace), (-1, 0, 0, BadSize)):
            steps = walk(word, size, place, many=many)
            raised(error, next, steps)
            self.assertRaises(error, list, walk(word, size, place, many=many))

    def test_no_error_of_a_walk_that_is_not_asked(self):
        walk(Word(), -1, -1, many=-1)

    def test_two_walks_in_turns(self):
        one, other = walk(Word.read("cut -1"), 9, 0, many=5), walk(Word.read("over; face t0"), 4, 1, many=5)
        found = [(next(one), next(other)) for step in range(5)]
        self.assertEqual([pair[0] for pair in found], list(walk(Word.read("cut -1"), 9, 0, many=5)))
        self.assertEqual([pair[1] for pair in found], list(walk(Word.read("over; face t0"), 4, 1, many=5)))
        self.assertIsNone(next(one, None))


if __name__ == "__main__":
    unittest.main()
