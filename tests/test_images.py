"""Points 3 and 5: the images of places under moves, and the moves that undo them."""

import random
import unittest

from pileports.errors import BadMove, BadSize, NoPlace
from pileports.moves import image, is_move, reach, undoing
from tests.models import RunPile, drawn_move, drawn_place, moved_one_by_one, moves_within


def images(move, size):
    return [image(move, size, place) for place in range(size)]


class SmallPilesTest(unittest.TestCase):
    def test_named_by_hand(self):
        self.assertEqual(images(("swap", ("top", 0), ("bottom", 1)), 4),
                         [(2, False), (1, False), (0, False), (3, False)])
        self.assertEqual(images(("carry", ("top", 0), ("bottom", 1)), 4),
                         [(2, False), (0, False), (1, False), (3, False)])
        self.assertEqual(images(("carry", ("bottom", 0), ("top", 1)), 4),
                         [(0, False), (2, False), (3, False), (1, False)])
        self.assertEqual(images(("cut", 1), 4), [(3, False), (0, False), (1, False), (2, False)])
        self.assertEqual(images(("cut", -1), 4), [(1, False), (2, False), (3, False), (0, False)])
        self.assertEqual(images(("turn", "top", 3), 4), [(2, True), (1, True), (0, True), (3, False)])
        self.assertEqual(images(("turn", "bottom", 2), 4), [(0, False), (1, False), (3, True), (2, True)])
        self.assertEqual(images(("over",), 3), [(2, True), (1, True), (0, True)])
        self.assertEqual(images(("face", ("bottom", 0)), 3), [(0, False), (1, False), (2, True)])

    def test_two_names_of_one_place(self):
        for name in ("swap", "carry"):
            self.assertEqual(images((name, ("top", 1), ("bottom", 1)), 3), [(0, False), (1, False), (2, False)])
            self.assertEqual(images((name, ("top", 1), ("top", 1)), 3), [(0, False), (1, False), (2, False)])

    def test_against_moved_cards(self):
        for move in moves_within(4):
            for size in range(10):
                self.assertEqual(images(move, size), moved_one_by_one([move], size), (move, size))

    def test_drawn_moves_at_all_depths(self):
        draw = random.Random(4)
        for trial in range(150):
            move = drawn_move(draw, 400)
            size = draw.choice((reach(move), reach(move) + 1, draw.randint(0, 900)))
            self.assertEqual(images(move, size), moved_one_by_one([move], size), (move, size))

    def test_kinds_of_values(self):
        for move in moves_within(2):
            for place, turned in images(move, 3):
                self.assertIs(type(place), int)
                self.assertIs(type(turned), bool)

    def test_equal_calls_and_names(self):
        move = ("carry", ("top", 0), ("bottom", 0))
        self.assertEqual(image(place=0, size=9, move=move), (8, False))
        self.assertEqual(image(move, 9, 0), image(move, 9, 0))


class GreatPilesTest(unittest.TestCase):
    def test_named_by_hand(self):
        size = 10 ** 30
        self.assertEqual(image(("over",), size, 5), (size - 6, True))
        self.assertEqual(image(("cut", 400), size, 399), (size - 1, False))
        self.assertEqual(image(("cut", -400), size, size - 1), (399, False))
        self.assertEqual(image(("cut", 3), size, 10 ** 29), (10 ** 29 - 3, False))
        self.assertEqual(image(("turn", "bottom", 400), size, size - 1), (size - 400, True))
        self.assertEqual(image(("turn", "bottom", 400), size, size - 401), (size - 401, False))
        self.assertEqual(image(("carry", ("top", 2), ("bottom", 0)), size, 2), (size - 1, False))
        self.assertEqual(image(("carry", ("top", 2), ("bottom", 0)), size, 10 ** 29), (10 ** 29 - 1, False))
        self.assertEqual(image(("carry", ("bottom", 0), ("top", 2)), size, 2), (3, False))
        self.assertEqual(image(("swap", ("top", 399), ("bottom", 399)), size, 399), (size - 400, False))
        self.assertEqual(image(("face", ("bottom", 399)), size, size - 400), (size - 400, True))

    def test_drawn_places(self):
        draw = random.Random(5)
        for trial in range(4000):
            size = draw.choice((10 ** 30, draw.randint(1, 10 ** 30), 10 ** draw.randint(0, 29), draw.randint(1, 900)))
            move = drawn_move(draw, draw.choice((3, 400)))
            pile = RunPile(size)
            pile.play(move)
            place = drawn_place(draw, size)
            self.assertEqual(image(move, size, place), pile.find(place), (move, size, place))


class ErrorsTest(unittest.TestCase):
    def error(self, error_class, move, size, place):
        with self.assertRaises(error_class) as caught:
            image(move, size, place)
        return caught.exception

    def test_bad_move(self):
        for move in ((), ("over", 1), ("cut", 401), ("face", ("top", 400))):
            for size, place in ((5, 0), (-1, 0), (5, 5), (10 ** 31, -1)):
                self.assertEqual(self.error(BadMove, move, size, place).at, 0)

    def test_bad_size(self):
        for move in (("over",), ("face", ("top", 399)), ("cut", 0)):
            for size in (-1, 10 ** 30 + 1, 10 ** 35):
                for place in (0, -1, 10 ** 36):
                    self.assertEqual(self.error(BadSize, move, size, place).size, size)

    def test_no_place(self):
        for move in (("over",), ("face", ("top", 399)), ("turn", "top", 0)):
            for size, place in ((0, 0), (0, -1), (1, 1), (1, -1), (5, 5), (5, 6), (5, -1), (10 ** 30, 10 ** 30)):
                self.assertEqual(self.error(NoPlace, move, size, place).place, place)

    def test_the_last_place_and_the_greatest_size(self):
        self.assertEqual(image(("over",), 10 ** 30, 10 ** 30 - 1), (0, True))
        self.assertEqual(image(("over",), 1, 0), (0, True))


class UndoingTest(unittest.TestCase):
    def check(self, move, size, place):
        back = undoing(move)
        goal, turned = image(move, size, place)
        start, turned_back = image(back, size, goal)
        self.assertEqual((start, turned ^ turned_back), (place, False), (move, size))

    def test_named_by_hand(self):
        self.assertEqual(undoing(("cut", 5)), ("cut", -5))
        self.assertEqual(undoing(("cut", 0)), ("cut", 0))
        self.assertEqual(undoing(move=("cut", -400)), ("cut", 400))

    def test_every_place_of_small_piles(self):
        for move in moves_within(4):
            self.assertTrue(is_move(undoing(move)))
            self.assertEqual(reach(undoing(move)), reach(move))
            for size in range(10):
                for place in range(size):
                    self.check(move, size, place)

    def test_drawn_places(self):
        draw = random.Random(6)
        for trial in range(3000):
            move = drawn_move(draw, 400)
            size = draw.choice((10 ** 30, draw.randint(1, 10 ** 30), draw.randint(1, 900), max(1, reach(move) - 1),
                                max(1, reach(move))))
            self.check(move, size, drawn_place(draw, size))


if __name__ == "__main__":
    unittest.main()
