"""Point 4 and the part of point 7 on end places."""

import unittest

from pileports.errors import BadPlace, BadSize, BadText, NoPlace
from pileports.places import MOST_CARDS, MOST_DEPTH, parse_place, place_text, resolve

BAD_PLACES = [("top", -1), ("bottom", -1), ("bottom", -(10 ** 30)), ("", 0), ("Top", 0), ("t", 0), ("top ", 0),
              ("middle", 3), ("middle", -3), ("bottom\n", 1)]


class ResolveTest(unittest.TestCase):
    def error(self, error_class, end_place, size):
        with self.assertRaises(error_class) as caught:
            resolve(end_place, size)
        return caught.exception

    def test_bounds(self):
        self.assertEqual(MOST_DEPTH, 399)
        self.assertEqual(MOST_CARDS, 10 ** 30)

    def test_small_piles(self):
        for size in range(1, 12):
            places = list(range(size))
            for depth in range(size):
                self.assertEqual(resolve(("top", depth), size), places[depth])
                self.assertEqual(resolve(("bottom", depth), size), places[-1 - depth])

    def test_one_card(self):
        self.assertEqual(resolve(("top", 0), 1), 0)
        self.assertEqual(resolve(("bottom", 0), 1), 0)

    def test_great_piles(self):
        size = 10 ** 30
        self.assertEqual(resolve(("top", 0), size), 0)
        self.assertEqual(resolve(("bottom", 0), size), size - 1)
        self.assertEqual(resolve(("top", size - 1), size), size - 1)
        self.assertEqual(resolve(("bottom", size - 1), size), 0)
        self.assertEqual(resolve(("top", 10 ** 29 + 7), size), 10 ** 29 + 7)
        self.assertEqual(resolve(("bottom", 10 ** 29 + 7), size), 9 * 10 ** 29 - 8)

    def test_depths_beyond_those_of_moves(self):
        self.assertEqual(resolve(("top", MOST_DEPTH + 1), 1000), 400)
        self.assertEqual(resolve(("bottom", MOST_DEPTH + 1), 1000), 599)

    def test_names(self):
        self.assertEqual(resolve(size=5, end_place=("bottom", 1)), 3)

    def test_bad_place(self):
        for place in BAD_PLACES:
            self.assertEqual(self.error(BadPlace, place, 10).place, place)

    def test_bad_size(self):
        for size in (-1, -(10 ** 30), 10 ** 30 + 1, 10 ** 40):
            for end in ("top", "bottom"):
                self.assertEqual(self.error(BadSize, (end, 0), size).size, size)

    def test_no_place(self):
        for end in ("top", "bottom"):
            for depth, size in ((0, 0), (7, 0), (1, 1), (5, 5), (6, 5), (10 ** 30, 10 ** 30), (10 ** 40, 3)):
                self.assertEqual(self.error(NoPlace, (end, depth), size).place, (end, depth))

    def test_order_of_errors(self):
        for place in BAD_PLACES:
            for size in (-1, 10 ** 30 + 1, 0):
                self.assertEqual(self.error(BadPlace, place, size).place, place)
        self.assertEqual(self.error(BadSize, ("top", 3), -1).size, -1)
        self.assertEqual(self.error(BadSize, ("bottom", 10 ** 35), 10 ** 31).size, 10 ** 31)


class PlaceTextTest(unittest.TestCase):
    def test_written(self):
        self.assertEqual(place_text(("top", 0)), "t0")
        self.assertEqual(place_text(("bottom", 12)), "b12")
        self.assertEqual(place_text(("top", 400)), "t400")
        self.assertEqual(place_text(("bottom", 10 ** 30)), "b1" + "0" * 30)
        self.assertEqual(place_text(end_place=("top", 7)), "t7")

    def test_bad_place(self):
        for place in BAD_PLACES:
            with self.assertRaises(BadPlace) as caught:
                place_text(place)
            self.assertEqual(caught.exception.place, place)

    def test_read_back(self):
        for end in ("top", "bottom"):
            for depth in (0, 1, 9, 10, 100, 399, 400, 10 ** 30, 10 ** 31 - 1):
                self.assertEqual(parse_place(place_text((end, depth))), (end, depth))
        self.assertEqual(parse_place(text="b12"), ("bottom", 12))

    def test_other_texts(self):
        for text in ("", "t", "b", "0", "12", "T0", "B1", "x3", "t00", "b01", "t-0", "t-1", "b+1", "t 1", " t1", "t1 ",
                     "t1 b2", "tt1", "t1.0", "t1_0", "top0", "top", "t0x1", "t1\n", "\nt1", "t1;", "b1,"):
            self.bad_text(text)

    def test_31_digits_at_most(self):
        self.assertEqual(parse_place("t" + "9" * 31), ("top", 10 ** 31 - 1))
        self.bad_text("t1" + "0" * 31)
        self.bad_text("b" + "9" * 32)
        self.bad_text("t" + "1" * 19999)
        self.bad_text("t" + "0" * 32)

    def bad_text(self, text):
        with self.assertRaises(BadText) as caught:
            parse_place(text)
        self.assertEqual(caught.exception.at, 0, text)


if __name__ == "__main__":
    unittest.main()
