"""Point 19: marks, which stay on their cards through plays, and their steps."""

import copy
import random
import unittest

from pileports.errors import BadName, Full, NoMark, NoPlace, NothingLeft, Taken
from pileports.piles import MarkedPile
from pileports.words import Word
from tests.helpers import raised
from tests.models import NAMED_WORDS
from tests.room_models import ModelPile, outcome, seen_model_pile, seen_pile

CUT, OVER = Word.read("cut 1"), Word.read("over")
NAMES = "abcdefghijklm"


def full_pile():
    pile = MarkedPile(3)
    for name in NAMES[:12]:
        pile.mark(name, 0)
    return pile


class MarksTest(unittest.TestCase):
    def test_named_by_hand(self):
        pile = MarkedPile(10 ** 30)
        self.assertIsNone(pile.mark('ace', 0))
        self.assertIsNone(pile.play(Word.read('cut 1'), rounds=10))
        self.assertEqual(pile.marks(), {'ace': 999999999999999999999999999990})
        self.assertEqual(pile.find('ace'), (999999999999999999999999999990, False))

    def test_marks_are_put_on_the_card_that_lies_there_now(self):
        pile = MarkedPile(5)
        pile.play(CUT)
        pile.mark(place=0, name="ace")
        self.assertEqual(pile.start(0), (1, False))
        self.assertEqual((pile.marks(), pile.find(name="ace")), ({"ace": 0}, (0, False)))
        pile.play(CUT, rounds=-1)
        self.assertEqual((pile.marks(), pile.find("ace")), ({"ace": 1}, (1, False)))
        pile.play(OVER)
        self.assertEqual((pile.marks(), pile.find("ace")), ({"ace": 3}, (3, True)))

    def test_cards_that_were_turned_over_before(self):
        pile = MarkedPile(4)
        pile.play(OVER)
        pile.mark("ace", 1)
        # As now does: turned over since the beginning, not since it was marked.
        self.assertEqual(pile.find("ace"), pile.now(2))
        self.assertEqual(pile.find("ace"), (1, True))
        pile.play(OVER)
        self.assertEqual(pile.find("ace"), (2, False))

    def test_several_marks_on_one_card(self):
        pile = MarkedPile(4)
        for name in ("ace", "king", "queen"):
            pile.mark(name, 2)
        pile.play(CUT)
        self.assertEqual(pile.marks(), {"ace": 1, "king": 1, "queen": 1})
        self.assertIsNone(pile.unmark(name="king"))
        self.assertEqual(pile.marks(), {"ace": 1, "queen": 1})
        raised(NoMark, pile.find, "king")

    def test_what_is_returned_is_new(self):
        pile = MarkedPile(4)
        pile.mark("ace", 2)
        pile.marks().clear()
        pile.marks()["king"] = 3
        self.assertEqual(pile.marks(), {"ace": 2})

    def test_names(self):
        pile = MarkedPile(3)
        for name in ("a", "z", "abcdefgh", "zzzzzzzz", "mark"):
            pile.mark(name, 1)
            pile.unmark(name)
        for name in ("", "abcdefghi", "A", "aB", "a b", " a", "a ", "a1", "1", "a-b", "a\n", "\n", "a_b", "{", "`", "aAa"):
            self.assertEqual(raised(BadName, pile.mark, name, 1).name, name)

    def test_twelve_marks(self):
        self.assertEqual(MarkedPile.MOST_MARKS, 12)
        pile = full_pile()
        self.assertEqual(len(pile.marks()), 12)
        self.assertEqual(raised(Full, pile.mark, "m", 1).limit, 12)
        pile.unmark("c")
        pile.mark("m", 1)
        self.assertEqual(pile.marks(), {**dict.fromkeys("abdefghijkl", 0), "m": 1})

    def test_order_of_errors(self):
        pile = full_pile()
        kept = (seen_pile(pile), pile.history())
        self.assertEqual(raised(BadName, pile.mark, "A", -1).name, "A")
        self.assertEqual(raised(Taken, pile.mark, "a", -1).name, "a")
        self.assertEqual(raised(Taken, pile.mark, "a", 0).name, "a")
        self.assertEqual(raised(NoPlace, pile.mark, "m", -1).place, -1)
        self.assertEqual(raised(NoPlace, pile.mark, "m", 3).place, 3)
        self.assertEqual(raised(Full, pile.mark, "m", 2).limit, 12)
        for name in ("m", "", "A"):
            self.assertEqual(raised(NoMark, pile.unmark, name).name, name)
            self.assertEqual(raised(NoMark, pile.find, name).name, name)
        self.assertEqual((seen_pile(pile), pile.history()), kept)
        self.assertEqual(raised(NoPlace, MarkedPile(0).mark, "a", 0).place, 0)


class MarkStepsTest(unittest.TestCase):
    def test_marks_are_steps(self):
        pile = MarkedPile(5)
        pile.mark("ace", 0)
        pile.play(CUT)
        pile.mark("king", 0)
        pile.unmark("ace")
        self.assertEqual((pile.marks(), pile.history()), ({"king": 0}, (4, 0)))
        pile.undo()
        self.assertEqual((pile.marks(), pile.history()), ({"ace": 4, "king": 0}, (3, 1)))
        pile.undo()
        self.assertEqual((pile.marks(), pile.history()), ({"ace": 4}, (2, 2)))
        pile.undo()
        self.assertEqual((pile.marks(), pile.plays(), pile.history()), ({"ace": 0}, [], (1, 3)))
        pile.undo()
        self.assertEqual((pile.marks(), pile.history()), ({}, (0, 4)))
        raised(NothingLeft, pile.undo)
        for step in range(4):
            pile.redo()
        self.assertEqual((pile.marks(), pile.history()), ({"king": 0}, (4, 0)))
        raised(NothingLeft, pile.redo)

    def test_a_new_mark_lets_the_undone_steps_go(self):
        pile = MarkedPile(5)
        pile.mark("ace", 0)
        pile.undo()
        pile.mark("king", 1)
        raised(NothingLeft, pile.redo)
        pile.unmark("king")
        pile.undo()
        raised(NoMark, pile.unmark, "ace")
        raised(Taken, pile.mark, "king", 0)
        self.assertEqual(pile.history(), (1, 1))
        pile.redo()
        self.assertEqual(pile.marks(), {})

    def test_against_a_model(self):
        draw = random.Random(160)
        for trial in range(25):
            size = draw.randint(0, 6)
            pile, model = MarkedPile(size), ModelPile(size)
            past, future = [], []
            for step in range(60):
                kind = draw.choice(("play", "mark", "mark", "unmark", "undo", "redo", "twin"))
                before = copy.deepcopy(model)
                if kind == "twin":
                    pile = pile.twin()
                    continue
                if kind in ("undo", "redo"):
                    one, other = (past, future) if kind == "undo" else (future, past)
                    if not one:
                        raised(NothingLeft, getattr(pile, kind))
                    else:
                        getattr(pile, kind)()
                        other.append(before)
                        model = one.pop()
                else:
                    self.step(draw, kind, pile, model)
                    if seen_model_pile(before) != seen_model_pile(model):
                        past.append(before)
                        future = []
                self.assertEqual(seen_pile(pile), seen_model_pile(model))
                self.assertEqual(pile.history(), (len(past), len(future)))

    def step(self, draw, kind, pile, model):
        if kind == "play":
            text, rounds = draw.choice(NAMED_WORDS), draw.choice((1, 2, -1, -3, 10 ** 30 + 1))
            found = outcome(pile.play, Word.read(text), rounds=rounds)
            self.assertEqual(found, outcome(model.play, text, rounds))
        elif kind == "mark":
            name, place = draw.choice([*NAMES, "A", ""]), draw.randint(-1, model.size)
            self.assertEqual(outcome(pile.mark, name, place), outcome(model.mark, name, place))
        else:
            name = draw.choice(NAMES)
            self.assertEqual(outcome(pile.unmark, name), outcome(model.unmark, name))


class MarkedEqualityTest(unittest.TestCase):
    def test_marks_on_the_same_cards(self):
        one, other = MarkedPile(5), MarkedPile(5)
        one.mark("ace", 0)
        self.assertFalse(one == other)
        other.mark("ace", 1)
        self.assertFalse(one == other)
        other.unmark("ace")
        other.mark("ace", 0)
        self.assertTrue(one == other)
        other.mark("king", 0)
        self.assertFalse(one == other)
        self.assertFalse(other == one)

    def test_the_card_counts_not_the_place(self):
        one, other = MarkedPile(5), MarkedPile(5)
        one.mark("ace", 1)
        one.play(CUT)
        other.play(CUT)
        other.mark("ace", 0)
        self.assertTrue(one == other)

    def test_the_order_of_the_marks_does_not_count(self):
        one, other = MarkedPile(5), MarkedPile(5)
        for name in ("ace", "king", "queen"):
            one.mark(name, 1)
        for name in ("queen", "ace", "king"):
            other.mark(name, 1)
        self.assertTrue(one == other)
        self.assertEqual(list(one.marks()), list(other.marks()))

    def test_twins_have_the_marks(self):
        pile = MarkedPile(5)
        pile.mark("ace", 1)
        pile.mark("king", 2)
        pile.undo()
        twin = pile.twin()
        self.assertIs(type(twin), MarkedPile)
        self.assertTrue(twin == pile)
        twin.redo()
        twin.unmark("ace")
        self.assertEqual((pile.marks(), pile.history()), ({"ace": 1}, (1, 1)))
        self.assertEqual((twin.marks(), twin.history()), ({"king": 2}, (3, 0)))
        pile.mark("queen", 3)
        self.assertEqual(twin.marks(), {"king": 2})


if __name__ == "__main__":
    unittest.main()
