"""Point 6 on words as values, and the part of point 7 on the texts of words."""

import random
import unittest

from pileports.errors import BadMove, BadText, TooLong
from pileports.moves import move_text
from pileports.words import Word
from tests.helpers import raised
from tests.models import drawn_moves, model_reach, moves_within

TEXTS = {
    "": [],
    "over": [("over",)],
    "swap t0 b12": [("swap", ("top", 0), ("bottom", 12))],
    "cut 1; over": [("cut", 1), ("over",)],
    "over; over; over": [("over",)] * 3,
    "carry b0 t3; cut -2; turn t 4; turn b 0; face b0": [
        ("carry", ("bottom", 0), ("top", 3)), ("cut", -2), ("turn", "top", 4), ("turn", "bottom", 0),
        ("face", ("bottom", 0))],
    "cut 60": [("cut", 60)],
    "turn b 30; face t29": [("turn", "bottom", 30), ("face", ("top", 29))],
}

# Each text with the index of its first part that is not the text of a move.
NO_TEXTS = [
    (" ", 0), (";", 0), ("; ", 0), ("\n", 0), ("flip", 0), ("over ", 0), (" over", 0), ("over\n", 0), ("over;", 0),
    ("over;over", 0), ("over ;over", 0), ("over ; over", 0), ("; over", 0), ("Over; over", 0), ("cut 01; over", 0),
    ("over; ", 1), ("over;  over", 1), ("over; over;", 1), ("over; ;", 1), ("over; \n", 1), ("cut 1; flip t0", 1),
    ("over; cut 401", 1), ("over; cut +1; cut x", 1), ("over; over; ", 2), ("over; over; ; over", 2),
    ("over; turn t 4; turn t4", 2), ("cut 1; face b0; swap t0; over; over", 2), ("face t0; over; over; over; face 0", 4),
    ("over; " * 45 + "over; -", 46), ("over; " * 45 + "ov; over", 45), ("cut 61; cut -0", 1), ("cut 61; ", 1),
]


class ValuesTest(unittest.TestCase):
    def test_class_values(self):
        self.assertEqual((Word.MOST_MOVES, Word.MOST_REACH), (40, 60))
        self.assertEqual((Word().MOST_MOVES, Word().MOST_REACH), (40, 60))

    def test_len_moves_and_reach(self):
        for moves in TEXTS.values():
            word = Word(*moves)
            self.assertEqual(len(word), len(moves))
            self.assertEqual(word.moves(), moves)
            self.assertIs(type(word.moves()), list)
            self.assertEqual(word.reach, sum(map(model_reach, moves)))
        self.assertEqual(Word(("cut", -3), ("over",), ("swap", ("top", 1), ("bottom", 4))).reach, 8)
        self.assertEqual(Word().reach, 0)

    def test_each_move_alone(self):
        for move in moves_within(4):
            word = Word(move)
            self.assertEqual((word.moves(), word.reach, len(word)), ([move], model_reach(move), 1))

    def test_equal(self):
        draw = random.Random(20)
        lists = [drawn_moves(draw, 3, 60, 2) for trial in range(60)] + [[], [("over",)]]
        for one in lists:
            for other in lists:
                self.assertIs(Word(*one) == Word(*other), one == other)
                self.assertIs(Word(*one) != Word(*other), one != other)

    def test_equal_plays_are_not_equal_words(self):
        self.assertNotEqual(Word(("over",), ("over",)), Word())
        self.assertNotEqual(Word(("cut", 0)), Word())
        self.assertNotEqual(Word(("swap", ("top", 0), ("top", 1))), Word(("swap", ("top", 1), ("top", 0))))
        self.assertNotEqual(Word(("cut", 1), ("over",)), Word(("over",), ("cut", 1)))

    def test_equal_to_nothing_else(self):
        word = Word(("over",), ("cut", 1))
        for other in ([("over",), ("cut", 1)], (("over",), ("cut", 1)), "over; cut 1", 2, None, True, {}):
            self.assertIs(word == other, False)
            self.assertIs(other == word, False)
            self.assertIs(word != other, True)
        for other in ([], (), "", 0, None, False):
            self.assertIs(Word() == other, False)

    def test_repr(self):
        self.assertEqual(repr(Word()), "Word(0 moves)")
        self.assertEqual(repr(Word(("over",))), "Word(1 moves)")
        self.assertEqual(repr(Word(("cut", 1), ("over",))), "Word(2 moves)")
        self.assertEqual(repr(Word(*[("over",)] * 40)), "Word(40 moves)")

    def test_returned_lists_are_new(self):
        word = Word(("cut", 1), ("over",))
        word.moves().append(("cut", 2))
        word.moves().clear()
        word.play(3).clear()
        self.assertEqual(word.moves(), [("cut", 1), ("over",)])
        self.assertEqual(word.play(3), [(0, True), (2, True), (1, True)])

    def test_arguments_stay(self):
        moves = [("cut", 1), ("face", ("top", 3))]
        word = Word(*moves)
        moves.append(("over",))
        self.assertEqual(word.moves(), [("cut", 1), ("face", ("top", 3))])


class BadMoveTest(unittest.TestCase):
    def test_first_invalid_argument(self):
        good = ("over",)
        for bad in ((), ("flip",), ("over", 0), ("cut", 401), ("face", ("top", 400)), ("turn", "top", -1), ("cut",),
                    ("swap", ("top", 0)), ("carry", ("top", 0), ("bottom", -1)), ("face", "t0")):
            self.assertEqual(raised(BadMove, Word, bad).at, 0)
            self.assertEqual(raised(BadMove, Word, good, bad).at, 1)
            self.assertEqual(raised(BadMove, Word, good, good, bad, good, bad).at, 2)
            self.assertEqual(raised(BadMove, Word, *[good] * 39, bad).at, 39)

    def test_ahead_of_both_lengths(self):
        self.assertEqual(raised(BadMove, Word, *[("over",)] * 50, ("cut", 401)).at, 50)
        self.assertEqual(raised(BadMove, Word, ("cut", 400), ("cut", 400), ("cut", 401)).at, 2)
        self.assertEqual(raised(BadMove, Word, *[("cut", 400)] * 41, (), ("flip",)).at, 41)


class TooLongTest(unittest.TestCase):
    # Two lists of moves, the limit that their sum exceeds, and None for a sum that is a word.
    SUMS = [
        ([("over",)] * 39, [("over",)], None),
        ([("over",)] * 40, [], None),
        ([("over",)] * 40, [("over",)], 40),
        ([("over",)] * 40, [("over",)] * 40, 40),
        ([("cut", 59)], [("cut", -1)], None),
        ([("cut", -60)], [("turn", "top", 0), ("over",)], None),
        ([("cut", 60)], [("face", ("bottom", 0))], 60),
        ([("turn", "bottom", 30)], [("swap", ("top", 30), ("bottom", 0))], 60),
        ([("cut", 1)] * 40, [("over",)], 40),
        ([("cut", 1)] * 40, [("cut", 21)], 40),
        ([("cut", 60)], [("over",)] * 39, None),
        ([("cut", 60)], [("over",)] * 40, 40),
        ([("over",)] * 39, [("cut", 60)], None),
        ([("over",)] * 38 + [("face", ("top", 0))], [("over",), ("cut", 60)], 40),
        ([("over",)] * 38 + [("face", ("top", 0))], [("cut", 60)], 60),
    ]

    def check(self, limit, call, *arguments):
        if limit is None:
            return call(*arguments)
        self.assertEqual(raised(TooLong, call, *arguments).limit, limit)
        return None

    def test_arguments(self):
        for one, other, limit in self.SUMS:
            self.check(limit, Word, *one, *other)
        for count, limit in ((60, None), (61, 60), (-60, None), (-61, 60), (400, 60)):
            self.check(limit, Word, ("cut", count))

    def test_texts(self):
        for one, other, limit in self.SUMS:
            text = "; ".join(map(move_text, one + other))
            word = self.check(limit, Word.read, text)
            if limit is None:
                self.assertEqual(word.moves(), one + other)

    def test_sums(self):
        for one, other, limit in self.SUMS:
            words = Word(*one), Word(*other)
            total = self.check(limit, lambda: words[0] + words[1])
            if limit is None:
                self.assertEqual(total.moves(), one + other)
            self.assertEqual([word.moves() for word in words], [one, other])

    def test_bad_text_ahead(self):
        for many in (40, 41, 60):
            self.assertEqual(raised(BadText, Word.read, "over; " * many + "overs").at, many)
            self.assertEqual(raised(BadText, Word.read, "cut 9; " * many + "overs; x").at, many)
        self.assertEqual(raised(BadText, Word.read, "overs; cut 61").at, 0)


class SumTest(unittest.TestCase):
    def test_moves_of_both(self):
        one, other = Word(("cut", 1), ("over",)), Word(("face", ("top", 0)))
        self.assertEqual((one + other).moves(), [("cut", 1), ("over",), ("face", ("top", 0))])
        self.assertEqual((other + one).moves(), [("face", ("top", 0)), ("cut", 1), ("over",)])
        self.assertEqual((one + other).reach, 2)
        self.assertIs(type(one + other), Word)
        self.assertEqual((len(one), len(other)), (2, 1))

    def test_the_empty_word(self):
        for moves in TEXTS.values():
            word = Word(*moves)
            self.assertEqual(word + Word(), word)
            self.assertEqual(Word() + word, word)

    def test_the_longest(self):
        half = Word(*[("cut", 1), ("face", ("bottom", 1))] * 10)
        self.assertEqual((len(half + half), (half + half).reach), (40, 60))


class UndoneTest(unittest.TestCase):
    def test_moves(self):
        word = Word(("cut", 3), ("carry", ("top", 0), ("bottom", 2)), ("turn", "top", 4), ("over",))
        self.assertEqual(word.undone().moves(),
                         [("over",), ("turn", "top", 4), ("carry", ("bottom", 2), ("top", 0)), ("cut", -3)])
        self.assertEqual(len(word), 4)
        self.assertEqual(Word().undone(), Word())

    def test_at_the_bounds(self):
        word = Word(*[("cut", 1), ("carry", ("bottom", 1), ("top", 0))] * 20)
        self.assertEqual((word.reach, len(word)), (60, 40))
        self.assertEqual((word.undone().reach, len(word.undone())), (60, 40))


class TextTest(unittest.TestCase):
    def test_written(self):
        for text, moves in TEXTS.items():
            self.assertEqual(str(Word(*moves)), text)

    def test_read(self):
        for text, moves in TEXTS.items():
            self.assertEqual(Word.read(text).moves(), moves)
            self.assertIs(type(Word.read(text)), Word)
        self.assertEqual(Word.read(text="cut 3"), Word(("cut", 3)))

    def test_called_off_an_object(self):
        self.assertEqual(Word(("over",)).read("cut 3"), Word(("cut", 3)))

    def test_read_back(self):
        draw = random.Random(21)
        for trial in range(300):
            word = Word(*drawn_moves(draw, 40, 60, draw.choice((1, 3, 60))))
            self.assertEqual(Word.read(str(word)), word)
        for move in moves_within(4):
            self.assertEqual(Word.read(str(Word(move))), Word(move))

    def test_bad_text(self):
        for text, at in NO_TEXTS:
            self.assertEqual(raised(BadText, Word.read, text).at, at, text)

    def test_bad_text_inside_a_text(self):
        parts = ["cut 1", "over", "face t0", "swap t0 b1", "turn t 2"]
        for at in range(5):
            for bad in ("", "flip t0", "cut 1 ", "over;over", "cut -0", "face t400", "turn t 401", "cut " + "9" * 40):
                text = "; ".join(parts[:at] + [bad] + parts[at + 1:])
                self.assertEqual(raised(BadText, Word.read, text).at, at, text)
                self.assertEqual(raised(BadText, Word.read, text + "; x").at, at, text)


if __name__ == "__main__":
    unittest.main()
