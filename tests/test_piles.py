"""Point 19: piles, their plays and steps; where cards lie and where they started."""

import random
import unittest

from pileports.errors import BadRounds, BadSize, Full, NoPlace, NothingLeft
from pileports.piles import MarkedPile, Pile
from pileports.places import MOST_CARDS
from pileports.rounds import through
from pileports.words import Word
from tests.helpers import raised
from tests.models import GREAT_REACH, MANY_MOVES, NAMED_WORDS, all_back, drawn_moves, drawn_place, moved_one_by_one
from tests.models import one_round

CUT, OVER, FACE = Word.read("cut 1"), Word.read("over"), Word.read("face t0")
CLASSES = (Pile, MarkedPile)


def seen(pile):
    """What can be seen of a small pile."""
    places = range(pile.cards)
    return pile.plays(), [pile.now(place) for place in places], [pile.start(place) for place in places], pile.history()


class PlaysTest(unittest.TestCase):
    def check(self, pile, plays):
        cards = [(place, False) for place in range(pile.cards)]
        for at, (word, rounds) in enumerate(plays):
            images = moved_one_by_one(word.moves(), pile.cards)
            for step in range(abs(rounds)):
                cards = one_round(cards, images if rounds > 0 else all_back(images))
            self.assertIsNone(pile.play(word, rounds=rounds))
            self.assertEqual([pile.now(place) for place in range(pile.cards)], cards)
            self.assertEqual([pile.start(place) for place in range(pile.cards)], all_back(cards))
            self.assertEqual(pile.plays(), [(str(word), rounds) for word, rounds in plays[:at + 1]])
            self.assertEqual((len(pile), pile.history()), (at + 1, (at + 1, 0)))

    def test_all_cards_after_each_play(self):
        draw = random.Random(150)
        for trial in range(40):
            plays = [(Word.read(draw.choice(NAMED_WORDS)), draw.randint(-6, 6)) for play in range(draw.randint(1, 12))]
            self.check(draw.choice(CLASSES)(draw.randint(0, 14)), plays)

    def test_drawn_words(self):
        draw = random.Random(151)
        for trial in range(20):
            plays = [(Word(*drawn_moves(draw, 8, 30, draw.choice((3, 15)))), draw.randint(-3, 3)) for play in range(4)]
            self.check(draw.choice(CLASSES)(draw.randint(1, 70)), plays)

    def test_sixty_plays(self):
        draw = random.Random(152)
        for made in CLASSES:
            plays = [(Word.read(draw.choice(NAMED_WORDS)), draw.randint(-2, 2)) for play in range(60)]
            self.check(made(6), plays)

    def test_one_round_if_nothing_is_said(self):
        for made in CLASSES:
            pile = made(5)
            pile.play(CUT)
            self.assertEqual(pile.plays(), [("cut 1", 1)])
            pile.play(word=CUT, rounds=-1)
            self.assertEqual(pile.plays(), [("cut 1", 1), ("cut 1", -1)])
            with self.assertRaises(TypeError):
                pile.play(CUT, 2)

    def test_no_plays(self):
        for made in CLASSES:
            pile = made(3)
            self.assertEqual(seen(pile), ([], [(0, False), (1, False), (2, False)], [(0, False), (1, False), (2, False)],
                                          (0, 0)))
            self.assertEqual((pile.cards, len(pile)), (3, 0))
            self.assertEqual(made(0).plays(), [])
            self.assertEqual(made(size=10 ** 30).now(place=10 ** 30 - 1), (10 ** 30 - 1, False))

    def test_no_rounds_are_a_play(self):
        pile = Pile(4)
        pile.play(CUT, rounds=0)
        self.assertEqual((pile.plays(), len(pile), pile.now(1), pile.history()), ([("cut 1", 0)], 1, (1, False), (1, 0)))

    def test_texts(self):
        self.assertEqual(repr(Pile(5)), "Pile(5 cards, 0 plays)")
        self.assertEqual(repr(MarkedPile(5)), "MarkedPile(5 cards, 0 plays, 0 marks)")
        pile = MarkedPile(10 ** 30)
        pile.play(CUT)
        pile.play(CUT)
        pile.mark("ace", 0)
        self.assertEqual(repr(pile), f"MarkedPile({10 ** 30} cards, 2 plays, 1 marks)")
        pile = Pile(1)
        pile.play(Word())
        self.assertEqual((repr(pile), pile.plays()), ("Pile(1 cards, 1 plays)", [("", 1)]))

    def test_what_is_returned_is_new(self):
        for made in CLASSES:
            pile = made(4)
            pile.play(CUT)
            pile.plays().clear()
            self.assertEqual(pile.plays(), [("cut 1", 1)])

    def test_great_piles(self):
        draw = random.Random(153)
        texts = NAMED_WORDS + GREAT_REACH + MANY_MOVES
        for trial in range(12):
            size = draw.choice((MOST_CARDS, draw.randint(200, MOST_CARDS)))
            pile = draw.choice(CLASSES)(size)
            plays = []
            for play in range(60):
                rounds = draw.choice((10 ** 30, -10 ** 30, draw.randint(-10 ** 30, 10 ** 30)))
                plays.append((Word.read(draw.choice(texts)), rounds))
                pile.play(plays[-1][0], rounds=rounds)
            for again in range(6):
                place = drawn_place(draw, size, 62)
                here, turned = pile.now(place)
                self.assertEqual((here, turned), through(plays, size, place))
                self.assertEqual(pile.start(here), (place, turned))
                there, turned = pile.start(place)
                self.assertEqual(pile.now(there), (place, turned))

    def test_the_words_are_not_changed(self):
        word = Word.read("cut 1; face t0")
        pile = Pile(9)
        pile.play(word, rounds=7)
        pile.now(3)
        self.assertEqual(str(word), "cut 1; face t0")


class PileErrorsTest(unittest.TestCase):
    def test_sizes(self):
        for made in CLASSES:
            for size in (-1, 10 ** 30 + 1, -10 ** 40 + 1, 10 ** 40 - 1):
                self.assertEqual(raised(BadSize, made, size).size, size)

    def test_places(self):
        for made in CLASSES:
            for size, place in ((0, 0), (3, 3), (3, -1), (10 ** 30, 10 ** 30)):
                pile = made(size)
                self.assertEqual(raised(NoPlace, pile.now, place).place, place)
                self.assertEqual(raised(NoPlace, pile.start, place).place, place)

    def test_plays(self):
        for made in CLASSES:
            self.assertEqual(made.MOST_PLAYS, 60)
            pile = made(3)
            for play in range(60):
                for rounds in (10 ** 30 + 1, -10 ** 30 - 1):
                    with self.assertRaises(BadRounds) as caught:
                        pile.play(CUT, rounds=rounds)
                    self.assertEqual(caught.exception.rounds, rounds)
                pile.play(CUT)
            self.assertEqual(raised(Full, pile.play, CUT).limit, 60)
            with self.assertRaises(BadRounds):
                pile.play(CUT, rounds=10 ** 30 + 1)
            self.assertEqual((len(pile), pile.history()), (60, (60, 0)))
            pile.undo()
            pile.play(OVER)
            self.assertEqual(pile.plays(), [("cut 1", 1)] * 59 + [("over", 1)])

    def test_great_rounds(self):
        pile = Pile(7)
        pile.play(CUT, rounds=10 ** 30)
        pile.play(CUT, rounds=-10 ** 30)
        self.assertEqual(pile.plays(), [("cut 1", 10 ** 30), ("cut 1", -10 ** 30)])
        self.assertEqual(pile.now(4), (4, False))


class StepsTest(unittest.TestCase):
    def test_undo_and_redo(self):
        for made in CLASSES:
            pile = made(5)
            words = [CUT, OVER, FACE, CUT]
            before = [seen(pile)[:3]]
            for word in words:
                pile.play(word)
                before.append(seen(pile)[:3])
            for done in (3, 2, 1, 0):
                self.assertIsNone(pile.undo())
                self.assertEqual(seen(pile), (*before[done], (done, 4 - done)))
            raised(NothingLeft, pile.undo)
            for done in (1, 2, 3, 4):
                self.assertIsNone(pile.redo())
                self.assertEqual(seen(pile), (*before[done], (done, 4 - done)))
            raised(NothingLeft, pile.redo)

    def test_nothing_left(self):
        for made in CLASSES:
            pile = made(5)
            raised(NothingLeft, pile.undo)
            raised(NothingLeft, pile.redo)
            self.assertEqual(pile.history(), (0, 0))
            pile.play(CUT)
            raised(NothingLeft, pile.redo)
            self.assertEqual(pile.history(), (1, 0))

    def test_a_new_step_lets_the_undone_ones_go(self):
        for made in CLASSES:
            pile = made(5)
            pile.play(CUT)
            pile.play(OVER)
            pile.undo()
            pile.undo()
            self.assertEqual(pile.history(), (0, 2))
            pile.play(FACE)
            self.assertEqual((pile.history(), pile.plays()), ((1, 0), [("face t0", 1)]))
            raised(NothingLeft, pile.redo)

    def test_a_refused_step_does_not(self):
        for made in CLASSES:
            pile = made(5)
            pile.play(CUT)
            pile.play(OVER)
            pile.undo()
            with self.assertRaises(BadRounds):
                pile.play(CUT, rounds=10 ** 31)
            raised(NoPlace, pile.now, 5)
            self.assertEqual(pile.history(), (1, 1))
            pile.redo()
            self.assertEqual(pile.plays(), [("cut 1", 1), ("over", 1)])


class EqualityTest(unittest.TestCase):
    def test_sizes_and_plays(self):
        for made in CLASSES:
            one, other = made(5), made(5)
            self.assertTrue(one == other)
            self.assertFalse(one == made(6))
            one.play(CUT, rounds=2)
            self.assertFalse(one == other)
            other.play(Word.read("cut 1"), rounds=2)
            self.assertTrue(one == other)
            # The same place for all cards is not enough: the plays count.
            last = made(5)
            last.play(CUT, rounds=7)
            self.assertEqual([last.now(place) for place in range(5)], [one.now(place) for place in range(5)])
            self.assertTrue(last != one)
            # Steps do not count.
            last.undo()
            last.play(CUT, rounds=2)
            one.play(OVER)
            one.undo()
            self.assertTrue(last == one)

    def test_the_two_classes(self):
        one, other = Pile(5), MarkedPile(5)
        self.assertFalse(one == other)
        self.assertFalse(other == one)
        self.assertTrue(one != other)
        self.assertFalse(Pile.__eq__(one, other))
        self.assertFalse(MarkedPile.__eq__(other, one))
        one.play(CUT)
        other.play(CUT)
        self.assertFalse(one == other)

    def test_other_values(self):
        for made in CLASSES:
            for other in (5, None, "Pile(5 cards, 0 plays)", [], (), {}, True, CUT):
                self.assertFalse(made(5) == other)
                self.assertTrue(made(5) != other)


class TwinTest(unittest.TestCase):
    def test_twins_go_their_own_ways(self):
        for made in CLASSES:
            pile = made(5)
            for word in (CUT, OVER, FACE):
                pile.play(word)
            pile.undo()
            twin = pile.twin()
            self.assertIs(type(twin), made)
            self.assertTrue(twin == pile)
            self.assertEqual(seen(twin), seen(pile))
            self.assertEqual(twin.history(), (2, 1))
            kept = seen(pile)
            twin.redo()
            self.assertEqual(twin.plays(), [("cut 1", 1), ("over", 1), ("face t0", 1)])
            self.assertEqual(seen(pile), kept)
            twin.undo()
            twin.undo()
            twin.undo()
            raised(NothingLeft, twin.undo)
            twin.play(FACE)
            self.assertEqual(seen(pile), kept)
            kept = seen(twin)
            pile.undo()
            pile.play(CUT, rounds=3)
            self.assertEqual(seen(twin), kept)


if __name__ == "__main__":
    unittest.main()
