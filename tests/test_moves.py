"""Point 5: what is a move, and its reach; the part of point 7 on moves."""

import unittest

from pileports.errors import BadMove, BadSize, BadText
from pileports.moves import MOST_BLOCK, image, is_move, move_text, parse_move, reach, undoing
from tests.models import end_places, model_reach, moves_within

TEXTS = {
    "swap t0 b12": ("swap", ("top", 0), ("bottom", 12)),
    "swap t399 t399": ("swap", ("top", 399), ("top", 399)),
    "carry b0 t3": ("carry", ("bottom", 0), ("top", 3)),
    "carry t10 b399": ("carry", ("top", 10), ("bottom", 399)),
    "cut -2": ("cut", -2),
    "cut 0": ("cut", 0),
    "cut 400": ("cut", 400),
    "cut -400": ("cut", -400),
    "turn t 4": ("turn", "top", 4),
    "turn b 0": ("turn", "bottom", 0),
    "turn b 400": ("turn", "bottom", 400),
    "over": ("over",),
    "face b0": ("face", ("bottom", 0)),
    "face t399": ("face", ("top", 399)),
}

NO_TEXTS = [
    "", " ", "\n", ";", "swap", "carry", "cut", "turn", "face", "over ", " over", "over 0", "over t0", "Over", "ove",
    "overs", "over\n", "flip t0", "swap t0", "swap t0 ", "swap t0 b1 ", "swap  t0 b1", "swap t0  b1", " swap t0 b1",
    "swap t0 b1 t2", "swap 0 1", "swap t b", "swap t0 b01", "swap t00 b1", "swap t-1 b1", "swap t+1 b1", "swap t0,b1",
    "swap t0 b400", "swap t400 b0", "swap t0 x1", "swap t0b1", "swapt0 b1", "swap t0 B1", "swap t0 b1\n", "swap\nt0 b1",
    "carry t0", "carry t0 b1 b1", "carry t0 400", "carry t0 b400", "carry t0 b1; over", "cut 1; over", "cut 1;",
    "cut +1", "cut 01", "cut -01", "cut -0", "cut 00", "cut - 1", "cut --1", "cut 401", "cut -401", "cut 1 1", "cut t1",
    "cut  1", "cut 1 ", "cut 1.0", "cut 1_0", "cut x", "cut " + "1" * 32, "cut " + "0" * 32, "cut " + "9" * 10000,
    "turn t", "turn 4", "turn t4", "turn t 4 4", "turn t -1", "turn t +1", "turn t 401", "turn b 04", "turn top 4",
    "turn T 4", "turn x 4", "turn  4", "turn t  4", "turn t t4", "turn t " + "3" * 32,
    "face", "face b", "face 0", "face b0 b0", "face b400", "face t" + "1" * 32, "face -1", "face b-1", "face  b0",
]

NO_MOVES = [
    (), ("",), ("flip",), ("Over",), ("over ",), (("top", 0),), (0,), (3, ("top", 0)), (("top", 0), "swap", ("top", 1)),
    ("over", 0), ("over", ("top", 0)), ("over", "top"), ("over", "over"),
    ("swap",), ("swap", ("top", 0)), ("swap", ("top", 0), ("top", 1), ("top", 2)), ("swap", 0, 1),
    ("swap", ("top", 0), 1), ("swap", "top", ("top", 0)), ("swap", "top", 0), ("swap", "t0", "b1"),
    ("swap", ("top", 0), ("top", -1)), ("swap", ("top", -1), ("top", 0)), ("swap", ("top", 400), ("top", 0)),
    ("swap", ("top", 0), ("bottom", 400)), ("swap", ("t", 0), ("b", 0)), ("swap", ("top", 0), ("left", 0)),
    ("carry",), ("carry", ("top", 0)), ("carry", ("top", 0), ("top", 1), 2), ("carry", ("top", 0), "bottom"),
    ("carry", ("top", 0), ("bottom", 400)), ("carry", ("bottom", 400), ("bottom", 0)), ("carry", ("", 0), ("top", 0)),
    ("carry", ("top", 0), ("bottom", -1)), ("carry", ("top", 0), ("Bottom", 1)), ("carry", 1, ("top", 0)),
    ("cut",), ("cut", "top"), ("cut", "1"), ("cut", ("top", 1)), ("cut", 1, 1), ("cut", "top", 1), ("cut", 401),
    ("cut", -401), ("cut", 10 ** 30), ("cut", -(10 ** 30)),
    ("turn",), ("turn", "top"), ("turn", 4), ("turn", 4, "top"), ("turn", ("top", 4)), ("turn", "top", 4, 4),
    ("turn", "top", -1), ("turn", "bottom", 401), ("turn", "t", 4), ("turn", "", 4), ("turn", "top", "4"),
    ("turn", "top", ("top", 4)), ("turn", ("top", 4), 4), ("turn", "middle", 0),
    ("face",), ("face", 0), ("face", "top"), ("face", "top", 0), ("face", ("top", 0), ("top", 0)),
    ("face", ("top", -1)), ("face", ("bottom", 400)), ("face", ("middle", 0)), ("face", ("top", 10 ** 30)),
]


class IsMoveTest(unittest.TestCase):
    def test_moves(self):
        self.assertEqual(MOST_BLOCK, 400)
        for move in moves_within(3) + list(TEXTS.values()):
            self.assertIs(is_move(move), True, move)

    def test_at_the_bounds_and_beyond(self):
        for depth, expected in ((-1, False), (0, True), (399, True), (400, False)):
            for place in end_places([depth]):
                self.assertIs(is_move(("face", place)), expected)
                for name in ("swap", "carry"):
                    self.assertIs(is_move((name, place, ("top", 0))), expected)
                    self.assertIs(is_move((name, ("bottom", 399), place)), expected)
        for count, cut, turn in ((-401, False, False), (-400, True, False), (-1, True, False), (0, True, True),
                                 (400, True, True), (401, False, False)):
            self.assertIs(is_move(("cut", count)), cut)
            self.assertIs(is_move(("turn", "top", count)), turn)
            self.assertIs(is_move(("turn", "bottom", count)), turn)

    def test_other_tuples(self):
        for move in NO_MOVES:
            self.assertIs(is_move(move), False, move)

    def test_longer_and_shorter_tuples(self):
        for move in TEXTS.values():
            for item in (0, "top", "over", ("top", 0)):
                self.assertIs(is_move(move + (item,)), False)
                self.assertIs(is_move((item,) + move), False)
            self.assertIs(is_move(move[:-1]), False)

    def test_names(self):
        self.assertIs(is_move(move=("over",)), True)


class ReachTest(unittest.TestCase):
    def test_each_kind(self):
        self.assertEqual(reach(("swap", ("top", 0), ("bottom", 12))), 13)
        self.assertEqual(reach(("swap", ("bottom", 12), ("top", 5))), 13)
        self.assertEqual(reach(("swap", ("top", 0), ("top", 0))), 1)
        self.assertEqual(reach(("carry", ("bottom", 399), ("top", 3))), 400)
        self.assertEqual(reach(("carry", ("top", 2), ("top", 3))), 4)
        self.assertEqual(reach(("cut", 7)), 7)
        self.assertEqual(reach(("cut", -7)), 7)
        self.assertEqual(reach(("cut", 0)), 0)
        self.assertEqual(reach(("turn", "top", 4)), 4)
        self.assertEqual(reach(("turn", "bottom", 400)), 400)
        self.assertEqual(reach(("turn", "bottom", 0)), 0)
        self.assertEqual(reach(("over",)), 0)
        self.assertEqual(reach(("face", ("bottom", 0))), 1)
        self.assertEqual(reach(move=("face", ("top", 399))), 400)

    def test_against_the_model(self):
        for move in moves_within(4) + list(TEXTS.values()):
            self.assertEqual(reach(move), model_reach(move), move)

    def test_a_pile_of_one_card_less_is_not_changed(self):
        # Each of these moves changes some card of a pile that has just as many cards as its reach.
        changing = [
            ("swap", ("top", 0), ("top", 399)), ("swap", ("top", 3), ("top", 1)), ("swap", ("bottom", 4), ("bottom", 0)),
            ("carry", ("top", 0), ("top", 5)), ("carry", ("bottom", 2), ("bottom", 0)), ("carry", ("top", 9), ("top", 0)),
            ("turn", "top", 1), ("turn", "top", 5), ("turn", "bottom", 400), ("face", ("top", 0)), ("face", ("bottom", 6)),
            ("face", ("top", 399)),
        ]
        for move in changing:
            many = reach(move)
            played = [image(move, many, place) for place in range(many)]
            self.assertNotEqual(played, [(place, False) for place in range(many)], move)
            for size in (many - 1, many // 2):
                images = [image(move, size, place) for place in range(size)]
                self.assertEqual(images, [(place, False) for place in range(size)], move)

    def test_a_cut_of_one_card_more(self):
        # A cut of all cards changes nothing, so the first size that shows it is the reach plus 1.
        for count in (1, 5, 400):
            for size in (count - 1, count):
                for move in (("cut", count), ("cut", -count)):
                    images = [image(move, size, place) for place in range(size)]
                    self.assertEqual(images, [(place, False) for place in range(size)])
            self.assertEqual(image(("cut", count), count + 1, 0), (1, False))
            self.assertEqual(image(("cut", -count), count + 1, count), (count - 1, False))


class MoveTextTest(unittest.TestCase):
    def test_written(self):
        for text, move in TEXTS.items():
            self.assertEqual(move_text(move), text)
        self.assertEqual(move_text(move=("over",)), "over")

    def test_read(self):
        for text, move in TEXTS.items():
            self.assertEqual(parse_move(text), move)
            self.assertIs(type(parse_move(text)), tuple)
        self.assertEqual(parse_move(text="cut 3"), ("cut", 3))

    def test_read_back(self):
        texts = set()
        moves = moves_within(4)
        for move in moves:
            self.assertEqual(parse_move(move_text(move)), move)
            texts.add(move_text(move))
        self.assertEqual(len(texts), len(set(moves)))

    def test_other_texts(self):
        for text in NO_TEXTS:
            with self.assertRaises(BadText) as caught:
                parse_move(text)
            self.assertEqual(caught.exception.at, 0, text)

    def test_texts_that_differ_by_a_character(self):
        # What parse_move takes must be just what move_text writes.
        for text in TEXTS:
            for at in range(len(text) + 1):
                for sign in " 0-+tb;\n":
                    self.check_text(text[:at] + sign + text[at:])
                    self.check_text(text[:at] + sign + text[at + 1:])
                self.check_text(text[:at] + text[at + 1:])

    def check_text(self, text):
        try:
            move = parse_move(text)
        except BadText as error:
            self.assertEqual(error.at, 0)
            return
        self.assertEqual(move_text(move), text)


class BadMoveTest(unittest.TestCase):
    def test_bad_moves(self):
        for call in (reach, move_text, undoing, lambda move: image(move, 5, 0)):
            for move in NO_MOVES:
                with self.assertRaises(BadMove) as caught:
                    call(move)
                self.assertEqual(caught.exception.at, 0)

    def test_ahead_of_bad_size(self):
        with self.assertRaises(BadMove):
            image(("flip",), -1, -1)
        with self.assertRaises(BadSize):
            image(("over",), -1, -1)


if __name__ == "__main__":
    unittest.main()
