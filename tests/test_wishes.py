"""Point 18: the rounds that meet a want, and the fewest rounds that meet several wants."""

import math
import random
import unittest

from pileports.errors import BadSize, NoPlace
from pileports.places import MOST_CARDS
from pileports.rounds import after
from pileports.ways import way, way_length
from pileports.wishes import meeting, wish
from pileports.words import Word
from tests.helpers import raised
from tests.models import GREAT_REACH, MANY_MOVES, NAMED_WORDS, drawn_moves, drawn_place, model_length, model_way
from tests.models import moved_one_by_one, one_round

FACES = (None, False, True)


def model_meeting(images, want):
    """The pair (r, m) of a want by trying all rounds of two times round."""
    place, goal, face = want
    length = model_length(model_way(images, place))[0]
    states, met = [(card, False) for card in range(len(images))], []
    for rounds in range(2 * length):
        here, turned = states[place]
        if here == goal and face in (None, turned):
            met.append(rounds)
        states = one_round(states, images)
    if not met:
        return None
    # Twice in two times round means once in each.
    return (met[0], length if len(met) == 2 else 2 * length)


def model_wish(images, wants):
    """What wish returns, by trying all rounds up to the least common multiple of the times round."""
    pairs = [model_meeting(images, want) for want in wants]
    if None in pairs:
        return ("never", pairs.index(None))
    for i in range(len(pairs)):
        for j in range(i + 1, len(pairs)):
            both = math.lcm(pairs[i][1], pairs[j][1])
            if not any(all(rounds % m == r for r, m in (pairs[i], pairs[j])) for rounds in range(both)):
                return ("clash", i, j)
    for rounds in range(math.lcm(*[m for r, m in pairs])):
        if all(rounds % m == r for r, m in pairs):
            return ("rounds", rounds)
    raise AssertionError("a wish without an answer")


class MeetingTest(unittest.TestCase):
    def check(self, word, size, places):
        images = moved_one_by_one(word.moves(), size)
        for place in places:
            for goal in places:
                for face in FACES:
                    expected = model_meeting(images, (place, goal, face))
                    found = meeting(word, size, place, goal, turned=face)
                    self.assertEqual(found, expected, (str(word), size, place, goal, face))

    def test_named_words(self):
        for text in NAMED_WORDS:
            for size in (1, 2, 3, 5, 8):
                self.check(Word.read(text), size, range(size))

    def test_great_reach(self):
        draw = random.Random(140)
        for text in GREAT_REACH:
            word = Word.read(text)
            for size in (31, 60, 125):
                self.check(word, size, draw.sample(range(size), 3))

    def test_drawn_words(self):
        draw = random.Random(141)
        for trial in range(30):
            word = Word(*drawn_moves(draw, draw.choice((3, 10)), 20, draw.choice((2, 5, 20))))
            size = draw.randint(1, 50)
            self.check(word, size, draw.sample(range(size), min(size, 4)))

    def test_named_by_hand(self):
        word = Word.read("cut -1; face t0")
        self.assertEqual(meeting(Word.read("cut -1"), 7, 2, 0), (5, 7))
        self.assertEqual(meeting(word, 7, 2, 0), (5, 7))
        self.assertEqual(meeting(word, 7, 2, 0, turned=True), (5, 14))
        self.assertEqual(meeting(word, 7, 2, 0, turned=False), (12, 14))
        self.assertEqual(meeting(word, 7, 2, 2, turned=False), (0, 14))
        self.assertEqual(meeting(word, 7, 2, 2, turned=True), (7, 14))
        self.assertIsNone(meeting(Word.read("cut -1"), 7, 2, 0, turned=True))
        self.assertEqual(meeting(Word.read("cut -1"), 7, 2, 0, turned=False), (5, 7))
        self.assertIsNone(meeting(Word.read("cut 2"), 8, 2, 3))
        self.assertEqual(meeting(turned=None, goal=3, place=3, size=4, word=Word()), (0, 1))

    def test_great_piles(self):
        draw = random.Random(142)
        for text in NAMED_WORDS + GREAT_REACH + MANY_MOVES:
            word = Word.read(text)
            for size in (MOST_CARDS, MOST_CARDS - 1, draw.randint(10 ** 9, MOST_CARDS)):
                place = drawn_place(draw, size, 62)
                rounds = draw.randint(0, 10 ** 30)
                goal, turned = after(word, size, place, rounds)
                length, odd = way_length(word, size, place)
                self.assertEqual(meeting(word, size, place, goal), (rounds % length, length))
                around = 2 * length if odd else length
                self.assertEqual(meeting(word, size, place, goal, turned=turned), (rounds % around, around))
                other = ((rounds + length) % around, around) if odd else None
                self.assertEqual(meeting(word, size, place, goal, turned=not turned), other)

    def test_goals_that_are_not_on_the_way(self):
        self.assertIsNone(meeting(Word.read("cut 2"), 10 ** 30, 0, 10 ** 30 - 1))
        self.assertEqual(meeting(Word.read("cut -2"), 10 ** 30, 0, 10 ** 30 - 2), (5 * 10 ** 29 - 1, 5 * 10 ** 29))
        self.assertIsNone(meeting(Word.read("over"), 10 ** 30, 0, 1))
        self.assertIsNone(meeting(Word(), 10 ** 30, 0, 1))

    def test_errors(self):
        word = Word.read("cut 1")
        for size in (-1, 10 ** 30 + 1):
            self.assertEqual(raised(BadSize, meeting, word, size, -1, -1).size, size)
        for size, place, goal, found in ((5, 5, -2, 5), (5, -1, 9, -1), (0, 0, 1, 0), (5, 4, 5, 5), (5, 0, -1, -1),
                                         (10 ** 30, 0, 10 ** 30, 10 ** 30)):
            self.assertEqual(raised(NoPlace, meeting, word, size, place, goal).place, found)
        with self.assertRaises(TypeError):
            meeting(word, 5, 1, 1, True)


class WishTest(unittest.TestCase):
    def test_small_piles(self):
        draw = random.Random(143)
        seen = {"rounds": 0, "never": 0, "clash": 0}
        for trial in range(600):
            word = Word.read(draw.choice(NAMED_WORDS))
            size = draw.randint(1, 9)
            images = moved_one_by_one(word.moves(), size)
            rounds = draw.randint(0, 50)
            wants = []
            for want in range(draw.choice((0, 1, 2, 2, 3, 4, 12))):
                place = draw.randrange(size)
                here, turned = after(word, size, place, rounds)
                if draw.random() < 0.15:
                    here, turned = after(word, size, place, draw.randint(0, 50))
                if draw.random() < 0.04:
                    here = draw.randrange(size)
                wants.append((place, here, draw.choice((None, turned))))
            expected = model_wish(images, wants)
            self.assertEqual(wish(word, size, wants), expected, (str(word), size, wants))
            seen[expected[0]] += 1
        self.assertGreater(min(seen.values()), 30, seen)

    def test_named_by_hand(self):
        word = Word.read("cut -1")
        self.assertEqual(wish(Word.read("cut -2"), 4, [(0, 2, None), (1, 3, None)]), ("rounds", 1))
        self.assertEqual(wish(word, 7, [(0, 3, None), (1, 5, None)]), ("clash", 0, 1))
        self.assertEqual(wish(word, 7, []), ("rounds", 0))
        self.assertEqual(wish(wants=(), size=0, word=word), ("rounds", 0))
        # The second want is never met, whatever clashes before it.
        wants = [(0, 3, None), (1, 5, None), (2, 2, True), (3, 3, True)]
        self.assertEqual(wish(word, 7, wants), ("never", 2))
        self.assertEqual(wish(word, 7, wants[:2]), ("clash", 0, 1))

    def test_the_first_pair_that_clashes(self):
        word = Word.read("cut -1")
        # All wants but the third and the fourth are met after 2 rounds.
        wants = [(0, 2, None), (1, 3, None), (2, 5, None), (3, 6, None), (4, 6, None)]
        self.assertEqual(wish(word, 7, wants), ("clash", 0, 2))
        # The ways of 2 and of 3 places clash with nothing but their own kind.
        word = Word.read("swap t0 t1; swap t2 t3; swap t3 t4")
        circle = [place for place, turned in [(first, turned) for first, step, count, turned in way(word, 9, 2)]]
        self.assertEqual(len(circle), 3)
        wants = [(0, 1, None), (circle[0], circle[1], None), (circle[1], circle[1], None), (1, 1, None)]
        self.assertEqual(wish(word, 9, wants), ("clash", 0, 3))
        self.assertEqual(wish(word, 9, wants[:3]), ("clash", 1, 2))
        self.assertEqual(wish(word, 9, wants[1:]), ("clash", 0, 1))
        self.assertEqual(wish(word, 9, wants[:2]), ("rounds", 1))

    def test_several_wants_for_one_card(self):
        word = Word.read("cut -1; face t0")
        self.assertEqual(wish(word, 5, [(1, 3, None), (1, 3, True)]), ("rounds", 7))
        self.assertEqual(wish(word, 5, [(1, 3, False), (1, 3, None), (1, 3, False)]), ("rounds", 2))
        self.assertEqual(wish(word, 5, [(1, 3, None), (1, 4, None)]), ("clash", 0, 1))
        self.assertEqual(wish(word, 5, [(1, 3, True), (1, 3, False)]), ("clash", 0, 1))
        self.assertEqual(wish(word, 5, [(1, 3, True)] * 12), ("rounds", 7))

    def test_twelve_wants_in_a_great_pile(self):
        draw = random.Random(144)
        texts = NAMED_WORDS + GREAT_REACH + MANY_MOVES
        for text in texts:
            word = Word.read(text)
            for size in (200, MOST_CARDS, MOST_CARDS - draw.randint(1, 999)):
                rounds = draw.randint(0, 10 ** 30)
                wants = []
                for want in range(12):
                    place = drawn_place(draw, size, 62)
                    goal, turned = after(word, size, place, rounds)
                    wants.append((place, goal, draw.choice((None, turned))))
                found = wish(word, size, wants)
                self.assertEqual(found[0], "rounds")
                around = math.lcm(*[meeting(word, size, place, goal, turned=turned)[1] for place, goal, turned in wants])
                self.assertEqual(found[1], rounds % around, (text, size, wants))
                kept = list(wants)
                self.assertEqual(wish(word, size, tuple(wants)), found)
                self.assertEqual(wants, kept)

    def test_great_piles_that_refuse(self):
        size = 10 ** 30
        word = Word.read("cut -1; face t0")
        wants = [(place, place + 7, False) for place in range(11)]
        self.assertEqual(wish(word, size, wants + [(50, 58, None)]), ("clash", 0, 11))
        self.assertEqual(wish(word, size, wants + [(size - 5, 2, True)]), ("rounds", 7))
        self.assertEqual(wish(Word.read("cut -2"), size, wants + [(0, 1, None)]), ("never", 0))

    def test_errors(self):
        word = Word.read("cut 1")
        for size in (-1, 10 ** 30 + 1):
            self.assertEqual(raised(BadSize, wish, word, size, [(-1, -1, None)]).size, size)
            self.assertEqual(raised(BadSize, wish, word, size, []).size, size)
        for wants, found in (
            ([(5, -2, None)], 5), ([(0, 9, None), (-1, 0, None)], 9), ([(0, 1, True), (7, 8, None)], 7),
            ([(0, 1, None), (2, -4, None), (9, 9, None)], -4), ([(0, 1, True)] * 11 + [(1, 5, None)], 5),
            # A want that is never met, and one that clashes, stand before the one without a place.
            ([(0, 1, None), (0, 2, None), (1, 1, True), (1, -1, None)], -1),
        ):
            self.assertEqual(raised(NoPlace, wish, word, 5, wants).place, found)
        self.assertEqual(raised(NoPlace, wish, word, 0, [(0, 0, None)]).place, 0)


if __name__ == "__main__":
    unittest.main()
