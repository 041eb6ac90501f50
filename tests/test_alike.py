"""Point 13: the sizes at which two words are alike, and the first place at which they differ."""

import random
import unittest

from pileports.alike import alike_sizes, first_difference
from pileports.errors import BadSize
from pileports.steady import form_of
from pileports.words import Word
from tests.helpers import raised
from tests.models import drawn_moves, moved_one_by_one, moves_within


def model_alike(one, other, bound):
    """Whether two words are alike at each size up to a bound, all cards moved one by one."""
    return [moved_one_by_one(one.moves(), size) == moved_one_by_one(other.moves(), size) for size in range(bound)]


def bound_of(one, other):
    """A size well beyond those at which the ends of a pile can meet."""
    return 4 * max(one.reach, other.reach) + 6


def rewritten(draw, word):
    """A word with the same form, at least most often: some moves are undone again, some are put in other ways."""
    moves = []
    for move in word.moves():
        if draw.random() < 0.3:
            moves += [("over",), ("over",)]
        if move[0] == "swap" and draw.random() < 0.5:
            move = ("swap", move[2], move[1])
        if move[0] == "cut" and draw.random() < 0.5:
            step = 1 if move[1] > 0 else -1
            moves += [("cut", step)] * abs(move[1])
        else:
            moves.append(move)
    extra = drawn_moves(draw, 2, 6, 3)
    moves += extra + Word(*extra).undone().moves()
    return Word(*moves)


class AlikeTest(unittest.TestCase):
    def check(self, one, other):
        result = alike_sizes(one, other)
        alike = model_alike(one, other, bound_of(one, other))
        sizes = [size for size, held in enumerate(alike) if held]
        if form_of(one) == form_of(other):
            least = len(alike)
            while least and alike[least - 1]:
                least -= 1
            self.assertLess(least, len(alike))
            self.assertEqual(result, ("from", least, [size for size in sizes if size < least]), (str(one), str(other)))
        else:
            self.assertEqual(result, ("only", sizes), (str(one), str(other)))
            self.assertLess(max(sizes, default=0), len(alike) - 3)
        return result

    def test_named_by_hand(self):
        for one, other, result in (
                ("swap t0 b2", "", ("only", [0, 1, 2, 3])),
                ("", "", ("from", 0, [])),
                ("over", "", ("only", [0])),
                ("over", "turn t 1", ("only", [0, 1])),
                ("cut 1", "cut -1", ("only", [0, 1, 2])),
                ("cut 1", "carry t0 b0", ("from", 0, [])),
                ("swap t0 t2", "swap t0 b0", ("only", [0, 1, 3])),
                ("swap t0 t1", "swap t0 b0", ("only", [0, 1, 2])),
                ("face t3", "face b0", ("only", [0, 4])),
                ("face t0", "face t0; swap t0 t2; swap t0 t2", ("from", 0, [])),
                ("swap t0 t2; face t2; swap t0 t2", "face t0", ("from", 3, [0])),
                ("over; over; over", "over", ("from", 0, [])),
                ("turn t 60", "over", ("only", [0, 60])),
                ("cut 60", "", ("only", list(range(61))))):
            self.assertEqual(self.check(Word.read(one), Word.read(other)), result, (one, other))

    def test_all_pairs_of_moves(self):
        moves = moves_within(2)
        for one in moves:
            for other in moves:
                self.check(Word(one), Word(other))

    def test_words_with_equal_forms(self):
        draw = random.Random(100)
        found = {}
        for trial in range(120):
            word = Word(*drawn_moves(draw, 4, 10, 4))
            result = self.check(word, rewritten(draw, word))
            found[result[0]] = found.get(result[0], 0) + 1
        self.assertGreater(found["from"], 100)

    def test_drawn_words(self):
        draw = random.Random(101)
        for trial in range(150):
            one, other = [Word(*drawn_moves(draw, 4, 12, draw.choice((2, 4, 8)))) for word in range(2)]
            self.check(one, other)

    def test_the_greatest_reaches(self):
        for one, other in (("cut 60", "cut -60"), ("carry t59 b59", "carry b59 t59"), ("swap t0 b59", "swap t0 t59"),
                           ("turn t 60", "turn b 60"), ("cut 30; cut -30", "turn b 30; turn b 30"),
                           ("cut 30; swap t0 b29", "carry t29 b29; face b29")):
            self.check(Word.read(one), Word.read(other))

    def test_either_order_and_names(self):
        one, other = Word.read("cut 1"), Word.read("cut -1")
        self.assertEqual(alike_sizes(other=other, one=one), alike_sizes(other, one))

    def test_words_stay_and_lists_are_new(self):
        one, other = Word.read("swap t0 b2"), Word()
        alike_sizes(one, other)[1].clear()
        self.assertEqual(alike_sizes(one, other), ("only", [0, 1, 2, 3]))
        self.assertEqual((one, other), (Word.read("swap t0 b2"), Word()))


class FirstDifferenceTest(unittest.TestCase):
    def check_small(self, one, other, size):
        images = [moved_one_by_one(word.moves(), size) for word in (one, other)]
        expected = None
        for place, (image, other_image) in enumerate(zip(*images)):
            if image != other_image:
                expected = (place, image, other_image)
                break
        self.assertEqual(first_difference(one, other, size), expected, (str(one), str(other), size))

    def test_small_piles_by_all_places(self):
        draw = random.Random(102)
        for trial in range(150):
            one, other = [Word(*drawn_moves(draw, 5, 14, draw.choice((2, 4, 8)))) for word in range(2)]
            if draw.random() < 0.4:
                other = one + Word(*drawn_moves(draw, 1, 5, 5))
            reach = max(one.reach, other.reach)
            for size in (0, 1, 2, reach, 2 * reach, 2 * reach + 1, 2 * reach + 2, 4 * reach + 5, draw.randint(0, 90)):
                self.check_small(one, other, size)

    def test_all_pairs_of_moves(self):
        moves = moves_within(2)
        for one in moves:
            for other in moves:
                for size in range(8):
                    self.check_small(Word(one), Word(other), size)

    def test_named_by_hand_in_great_piles(self):
        size = 10 ** 30
        for one, other, result in (
                ("face b0", "", (size - 1, (size - 1, True), (size - 1, False))),
                ("face b59", "", (size - 60, (size - 60, True), (size - 60, False))),
                ("face t59", "", (59, (59, True), (59, False))),
                ("swap t7 b3", "", (7, (size - 4, False), (7, False))),
                ("swap b7 b3", "swap b7 b2", (size - 8, (size - 4, False), (size - 3, False))),
                ("carry t5 b5", "", (5, (size - 6, False), (5, False))),
                ("carry b5 t5", "", (5, (6, False), (5, False))),
                ("cut 1", "carry t0 b1", (0, (size - 1, False), (size - 2, False))),
                ("cut 1", "carry t0 b0", None),
                ("cut 1; face b0", "face t0; carry t0 b0", None),
                ("turn t 20", "turn t 20; over; turn t 1; over", (size - 1, (size - 1, False), (size - 1, True))),
                ("over", "", (0, (size - 1, True), (0, False))),
                ("over; over", "", None)):
            self.assertEqual(first_difference(Word.read(one), Word.read(other), size), result, (one, other))

    def test_differences_in_the_middle_of_great_piles(self):
        size = 10 ** 30
        # The first cards go to the same places, those behind them do not.
        one = Word.read("cut 1; carry b0 t0; carry t3 b0")
        self.assertEqual(first_difference(one, Word.read("carry t3 b0"), size), None)
        self.assertEqual(first_difference(one, Word(), size), (3, (size - 1, False), (3, False)))
        self.assertEqual(first_difference(Word.read("carry t3 b0"), Word.read("swap t3 b0"), size),
                         (4, (3, False), (4, False)))
        self.assertEqual(first_difference(Word.read("over; carry b0 t0"), Word.read("face t0"), size),
                         (1, (size - 1, True), (1, False)))
        self.assertEqual(first_difference(Word.read("carry t59 b0"), Word.read("swap t59 b0"), size),
                         (60, (59, False), (60, False)))

    def test_great_piles_against_forms(self):
        draw = random.Random(103)
        found = {"top": 0, "middle": 0, "bottom": 0, "none": 0}
        for trial in range(600):
            one = Word(*drawn_moves(draw, 6, 30, draw.choice((2, 8, 30))))
            other = Word(*drawn_moves(draw, 2, 30, draw.choice((2, 30)))) + one
            size = draw.choice((10 ** 30, draw.randint(500, 10 ** 30)))
            first, second = form_of(one), form_of(other)
            expected, where = None, "none"
            # No table has more than 60 entries, so the places from 60 on show how those in the middle go.
            for place in [*range(130), *range(size - 130, size)]:
                images = first.image(size, place), second.image(size, place)
                if images[0] != images[1]:
                    expected = (place, *images)
                    above = max(len(first.top()), len(second.top()))
                    where = "top" if place < above else "middle" if place == above else "bottom"
                    break
            found[where] += 1
            self.assertEqual(first_difference(one, other, size), expected, (str(one), str(other), size))
        # The draws show differences near the top, just behind both tables, near the bottom, and nowhere.
        self.assertGreater(min(found.values()), 5, found)

    def test_bad_size(self):
        for one, other in (("", ""), ("over", ""), ("face b0", "face b0"), ("cut 1", "cut 2")):
            for size in (-1, -(10 ** 30), 10 ** 30 + 1, 10 ** 39):
                self.assertEqual(raised(BadSize, first_difference, Word.read(one), Word.read(other), size).size, size)

    def test_names(self):
        self.assertEqual(first_difference(size=4, other=Word(), one=Word.read("face b0")), (3, (3, True), (3, False)))
        self.assertEqual(first_difference(Word(), Word.read("face b0"), 4), (3, (3, False), (3, True)))
        self.assertIs(first_difference(Word(), Word.read("face b0"), 0), None)


if __name__ == "__main__":
    unittest.main()
