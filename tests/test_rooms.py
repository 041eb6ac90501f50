"""Points 20 and 22: rooms, their steps, trials, news and capacity, twins, tables, and rooms against a model."""

import random
import unittest

from pileports.errors import BadCapacity, Full, NoPile, NothingLeft, NoWord
from pileports.piles import MarkedPile
from pileports.rooms import Room
from pileports.steady import steady_from
from pileports.words import Word
from tests.helpers import raised
from tests.models import GREAT_REACH, MANY_MOVES
from tests.room_models import ModelRoom, outcome, seen_model_room, seen_room
from tests.test_deeds import full_room, small_room


class NewsTest(unittest.TestCase):
    def test_named_by_hand(self):
        room = Room()
        first = room.apply_all([('word', 'a', 'cut 1'), ('word', 'b', 'carry t0 b0'), ('watch', 'a', 'b')])
        second = room.apply(('word', 'b', 'cut 2'))
        self.assertEqual([first, second], [[(1, True)], [(1, False)]])

    def test_watches_whose_truth_has_changed(self):
        room = Room()
        room.apply_all([("word", "a", "cut 1"), ("word", "b", "cut 2"), ("word", "c", "cut 1; over; over")])
        self.assertEqual(room.apply_all([("watch", "b", "a"), ("watch", "c", "b"), ("watch", "a", "c")]),
                         [(1, False), (2, False), (3, True)])
        self.assertEqual(room.apply(("word", "b", "cut -1; cut 2")), [(1, True), (2, True)])
        # Another text with the same form is no news.
        self.assertEqual(room.apply(("word", "b", "carry t0 b0")), [])
        self.assertEqual(room.apply(("word", "a", "over")), [(1, False), (3, False)])
        # What changes and changes back within the step is no news.
        self.assertEqual(room.apply_all([("word", "a", "cut 1"), ("word", "a", "over")]), [])
        # Removed watches are no news, also if their truth has changed before.
        self.assertEqual(room.apply_all([("word", "a", "cut 1"), ("unwatch", 1)]), [(3, True)])
        # Watches that are added and removed in the step are no news; those that are added are told as they are after it.
        self.assertEqual(room.apply_all([("watch", "a", "b"), ("unwatch", 4), ("watch", "b", "b"), ("watch", "a", "c"),
                                         ("word", "c", "")]), [(2, False), (3, False), (5, True), (6, False)])
        self.assertEqual(room.apply_all([]), [])
        self.assertEqual(room.watches(), [(2, "c", "b", False), (3, "a", "c", False), (5, "b", "b", True),
                                          (6, "a", "c", False)])

    def test_forms_count_not_sizes(self):
        room = Room()
        # The two words differ in small piles, and not in great ones.
        news = room.apply_all([("word", "a", "swap t0 t5; swap t0 t5; face b0"), ("word", "b", "face b0"), ("watch", "a", "b")])
        self.assertEqual(news, [(1, True)])
        news = room.apply_all([("word", "a", "swap t0 b2"), ("word", "b", ""), ("watch", "b", "a")])
        self.assertEqual(news, [(1, False), (2, False)])

    def test_numbers_ascend(self):
        room = full_room()
        numbers = [number for number, holds in room.apply(("word", "a", "over"))]
        self.assertEqual(numbers, [1, 2, 3, 4, 5, 6])
        self.assertEqual([watch[0] for watch in room.watches()], numbers)
        for step in range(20):
            room.apply_all([("unwatch", room.watches()[step % 6][0]), ("watch", "a", "b")])
        numbers = [number for number, holds in room.apply(("word", "a", "cut 1"))]
        self.assertEqual(numbers, sorted(numbers))
        self.assertEqual(numbers, [watch[0] for watch in room.watches()])

    def test_news_are_new(self):
        room = small_room()
        news = room.apply(("watch", "a", "a"))
        news.clear()
        self.assertEqual(room.watches()[1:], [(2, "a", "a", True)])


class StepsTest(unittest.TestCase):
    def test_undo_and_redo(self):
        room = Room()
        states = [seen_room(room)[:6]]
        steps = ([("word", "a", "cut 1")], [("pile", "p", 4), ("mark", "p", "m", 0)], [("play", "p", "a", 1)],
                 [("watch", "a", "a")], [], [("unwatch", 1), ("drop", "a")], [("unmark", "p", "m"), ("away", "p")])
        for deeds in steps:
            room.apply_all(deeds)
            states.append(seen_room(room)[:6])
        for done in reversed(range(7)):
            self.assertIsNone(room.undo())
            self.assertEqual((seen_room(room)[:6], room.history()), (states[done], (done, 7 - done)))
        raised(NothingLeft, room.undo)
        for done in range(1, 8):
            self.assertIsNone(room.redo())
            self.assertEqual((seen_room(room)[:6], room.history()), (states[done], (done, 7 - done)))
        raised(NothingLeft, room.redo)

    def test_numbers_of_undone_watches_are_used_again(self):
        room = small_room()
        self.assertEqual(room.coming(), 2)
        room.apply(("watch", "b", "b"))
        self.assertEqual(room.coming(), 3)
        room.undo()
        self.assertEqual(room.coming(), 2)
        room.redo()
        self.assertEqual((room.coming(), room.watches()[-1]), (3, (2, "b", "b", True)))
        room.undo()
        self.assertEqual(room.apply(("watch", "a", "a")), [(2, True)])
        # The number of a watch that was removed is not used again.
        room.apply(("unwatch", 2))
        self.assertEqual(room.coming(), 3)
        self.assertEqual(room.apply(("watch", "a", "b")), [(3, False)])

    def test_a_new_step_lets_the_undone_ones_go(self):
        room = small_room()
        room.apply(("pile", "q", 1))
        room.undo()
        room.apply_all([])
        self.assertEqual(room.history(), (2, 0))
        raised(NothingLeft, room.redo)

    def test_what_is_refused_or_tried_does_not(self):
        room = small_room()
        room.apply(("pile", "q", 1))
        room.undo()
        raised(NoWord, room.apply, ("drop", "z"))
        raised(NoWord, room.apply_all, [("pile", "r", 1), ("drop", "z")])
        room.trial([("pile", "r", 1)])
        raised(NoWord, room.trial, [("drop", "z")])
        room.set_capacity(3)
        raised(BadCapacity, room.set_capacity, 0)
        self.assertEqual(room.history(), (1, 1))
        room.redo()
        self.assertEqual(room.piles(), ["p", "q"])


class TrialTest(unittest.TestCase):
    def test_returns_what_apply_all_would(self):
        room = small_room()
        deeds = [("word", "b", "cut 1"), ("watch", "b", "b"), ("pile", "q", 3), ("play", "p", "b", 5), ("unmark", "p", "m")]
        kept = seen_room(room)
        for call in range(3):
            self.assertEqual(room.trial(deeds), [(1, True), (2, True)])
            self.assertEqual(seen_room(room), kept)
            self.assertIs(room.busy, False)
        self.assertEqual(room.trial(deeds=tuple(deeds)), [(1, True), (2, True)])
        self.assertEqual(room.trial([]), [])
        self.assertEqual(seen_room(room), kept)
        self.assertEqual(room.apply_all(deeds), [(1, True), (2, True)])

    def test_not_busy_after_an_error(self):
        room = full_room()
        self.assertIs(room.busy, False)
        for deeds in ([("word", "z", "over")], [None], [("drop", "a")], [("away", "a"), ("away", "a")]):
            found = outcome(room.trial, deeds)
            self.assertEqual(found[0], "raised")
            self.assertIs(room.busy, False)
            self.assertEqual(found, outcome(room.apply_all, deeds))

    def test_busy_while_the_trial_runs(self):
        seen = []

        class Watching(list):
            """A list of deeds that looks at the room whenever it is gone through."""

            def __iter__(self):
                seen.append(room.busy)
                return list.__iter__(self)

        room = small_room()
        room.trial(Watching([("word", "c", "over")]))
        self.assertEqual(set(seen), {True})
        seen.clear()
        room.apply_all(Watching([("word", "c", "over")]))
        self.assertEqual(set(seen), {False})
        self.assertIs(room.busy, False)

    def test_the_capacity_counts(self):
        room = small_room()
        room.capacity = 2
        self.assertEqual(raised(Full, room.trial, [("word", "c", "over")]).limit, 2)
        self.assertEqual(room.trial([("word", "a", "over")]), [])


class CapacityTest(unittest.TestCase):
    def test_set_in_either_way(self):
        room = Room()
        self.assertEqual(room.capacity, 12)
        for value in range(1, 13):
            room.capacity = value
            self.assertEqual(room.capacity, value)
            self.assertIsNone(room.set_capacity(value=13 - value))
            self.assertEqual(room.capacity, 13 - value)
        for value in (0, 13, -1, 10 ** 40 - 1):
            self.assertEqual(raised(BadCapacity, room.set_capacity, value).value, value)
            with self.assertRaises(BadCapacity) as caught:
                room.capacity = value
            self.assertEqual(caught.exception.value, value)
            self.assertEqual(room.capacity, 1)

    def test_full(self):
        room = Room()
        room.capacity = 2
        room.apply_all([("word", "a", "over"), ("word", "b", "over")])
        self.assertEqual(raised(Full, room.apply, ("word", "c", "over")).limit, 2)
        room.apply(("word", "a", "cut 1"))
        room.apply_all([("drop", "a"), ("word", "c", "over")])
        room.capacity = 3
        room.apply(("word", "d", "over"))
        self.assertEqual(raised(Full, room.apply, ("word", "e", "over")).limit, 3)

    def test_less_than_the_number_of_words(self):
        room = full_room()
        room.capacity = 4
        self.assertEqual((len(room), room.capacity), (12, 4))
        self.assertEqual(raised(Full, room.apply, ("word", "z", "over")).limit, 4)
        room.apply(("word", "l", "over"))
        room.apply(("drop", "l"))
        self.assertEqual(raised(Full, room.apply, ("word", "l", "over")).limit, 4)
        # Undo takes the word back all the same.
        room.undo()
        self.assertEqual((len(room), room.capacity), (12, 4))

    def test_no_step(self):
        room = small_room()
        room.apply(("word", "c", "over"))
        room.undo()
        room.capacity = 5
        room.set_capacity(2)
        self.assertEqual(room.history(), (1, 1))
        room.redo()
        self.assertEqual((room.words(), room.capacity), (["a", "b", "c"], 2))
        room.undo()
        room.undo()
        self.assertEqual((room.words(), room.capacity), ([], 2))
        room.redo()
        self.assertEqual(room.capacity, 2)


class EqualityTest(unittest.TestCase):
    def test_what_counts(self):
        one = small_room()
        for deed in (("word", "c", "over"), ("word", "a", "cut 2; cut -1"), ("pile", "q", 3), ("play", "p", "a", 0), ("away", "p"),
                     ("mark", "p", "n", 0), ("unmark", "p", "m"), ("watch", "a", "a"), ("unwatch", 1)):
            other = small_room()
            self.assertTrue(one == other)
            other.apply(deed)
            self.assertFalse(one == other, deed)
            self.assertTrue(one != other, deed)
            other.undo()
            self.assertTrue(one == other, deed)
        # The number of the next watch counts alone, too.
        other = small_room()
        other.apply_all([("watch", "a", "a"), ("unwatch", 2)])
        self.assertEqual(seen_room(one)[:5], seen_room(other)[:5])
        self.assertFalse(one == other)

    def test_what_does_not(self):
        one, other = small_room(), Room()
        for deed in (("word", "b", "over; face t0"), ("word", "a", "cut 1"), ("pile", "p", 5), ("play", "p", "a", 2),
                     ("mark", "p", "m", 1), ("watch", "a", "b")):
            other.apply(deed)
        other.capacity = 3
        self.assertNotEqual(one.history(), other.history())
        self.assertTrue(one == other)
        self.assertTrue(Room() == Room())

    def test_other_values(self):
        for other in (None, 0, "Room(0 words, 0 piles, 0 watches)", [], (), {}, False, Word(), MarkedPile(0)):
            self.assertFalse(Room() == other)
            self.assertTrue(Room() != other)


class AskedTest(unittest.TestCase):
    def test_sizes_and_names(self):
        room = small_room()
        self.assertEqual((len(room), repr(room)), (2, "Room(2 words, 1 piles, 1 watches)"))
        self.assertEqual((len(Room()), repr(Room())), (0, "Room(0 words, 0 piles, 0 watches)"))
        self.assertEqual([name in room for name in ("a", "b", "c", "p", "m", "", "A")], [True, True] + [False] * 5)
        self.assertEqual(repr(full_room()), "Room(12 words, 6 piles, 6 watches)")

    def test_an_empty_room(self):
        room = Room()
        self.assertEqual((room.words(), room.piles(), room.watches(), room.coming(), room.table()), ([], [], [], 1, []))
        self.assertEqual((room.history(), room.capacity, room.busy), ((0, 0), 12, False))
        raised(NothingLeft, room.undo)
        raised(NothingLeft, room.redo)
        raised(NoWord, room.get, "a")
        raised(NoPile, room.pile, "a")

    def test_piles_are_independent(self):
        room = small_room()
        kept = seen_room(room)
        pile = room.pile("p")
        self.assertIs(type(pile), MarkedPile)
        pile.play(Word.read("over"))
        pile.mark("n", 0)
        pile.unmark("m")
        self.assertEqual(seen_room(room), kept)
        self.assertEqual(room.pile("p").marks(), {"m": 1})
        pile = room.pile("p")
        raised(NothingLeft, pile.undo)
        room.apply(("play", "p", "b", 1))
        self.assertEqual(pile.plays(), [("cut 1", 2)])

    def test_what_is_returned_is_new(self):
        room = small_room()
        kept = seen_room(room)
        for found in (room.words(), room.piles(), room.watches(), room.table(), room.get("a").moves()):
            found.append("z")
            found.reverse()
        self.assertEqual(seen_room(room), kept)

    def test_words_are_the_same_after_all(self):
        room = small_room()
        word = room.get("a")
        room.apply(("word", "a", "over"))
        self.assertEqual((str(word), str(room.get("a"))), ("cut 1", "over"))

    def test_table(self):
        room = Room()
        texts = {"b": "", "a": "cut 1", "abcdefgh": "cut 60", "cde": "swap t0 b2", "long": "swap t59 b59",
                 "many": MANY_MOVES[0], "ten": "turn t 10"}
        for name, text in texts.items():
            room.apply(("word", name, text))
        lines = room.table()
        self.assertEqual(lines[0], "a       |  1|   1|cut 1")
        self.assertEqual(lines[1], "abcdefgh| 60|  60|cut 60")
        self.assertEqual(lines[2], "b       |  0|   0|")
        self.assertEqual(lines[3], "cde     |  3|   4|swap t0 b2")
        self.assertEqual(lines[4], "long    | 60| 120|swap t59 b59")
        self.assertEqual(lines[6], "ten     | 10|  10|turn t 10")
        for line, name in zip(lines, sorted(texts)):
            word = Word.read(texts[name])
            self.assertEqual(line, name.ljust(8) + "|" + str(word.reach).rjust(3) + "|" + str(steady_from(word)).rjust(4)
                             + "|" + texts[name])

    def test_table_of_many_words(self):
        room = Room()
        room.apply_all([("word", name, text) for name, text in zip("abcdefghijkl", GREAT_REACH)])
        self.assertEqual([line.split("|")[3] for line in room.table()], list(GREAT_REACH[:12]))
        self.assertEqual([int(line.split("|")[1]) for line in room.table()], [Word.read(text).reach for text in GREAT_REACH[:12]])


class TwinTest(unittest.TestCase):
    def test_twins_go_their_own_ways(self):
        room = small_room()
        room.apply(("pile", "q", 3))
        room.apply(("watch", "b", "b"))
        room.undo()
        room.capacity = 7
        twin = room.twin()
        self.assertTrue(twin == room)
        kept = seen_room(room)
        self.assertEqual(seen_room(twin), kept)
        self.assertEqual((twin.history(), twin.capacity), ((2, 1), 7))
        twin.redo()
        self.assertEqual(twin.coming(), 3)
        twin.capacity = 2
        twin.apply_all([("word", "a", "over"), ("play", "p", "a", 3), ("mark", "p", "z", 0), ("away", "q")])
        self.assertEqual(seen_room(room), kept)
        for step in range(4):
            twin.undo()
        raised(NothingLeft, twin.undo)
        self.assertEqual(seen_room(room), kept)
        kept = seen_room(twin)
        room.apply_all([("unwatch", 1), ("drop", "a"), ("away", "p")])
        self.assertEqual(seen_room(twin), kept)
        self.assertFalse(twin == room)


class ModelTest(unittest.TestCase):
    TEXTS = ("cut 1", "carry t0 b0", "cut 2; cut -1", "over", "over; over", "", "face t0; face t0", "swap t0 b1", "turn t 2",
             "cut 1; face b0", "flip", "over; cut", "cut 61", "over;over", "; ".join(["over"] * 41))

    def drawn_deed(self, draw):
        word, other = draw.choice("abcdA"), draw.choice("abcde")
        pile, mark = draw.choice("ppqrZ"), draw.choice("mmno ")
        rounds = draw.choice((0, 1, 1, 2, -1, -3, 10 ** 30 + 1))
        return draw.choice((
            ("word", word, draw.choice(self.TEXTS[:10])), ("word", word, draw.choice(self.TEXTS)), ("drop", word),
            ("pile", pile, draw.choice((0, 1, 3, 5, 5, -1))), ("away", pile), ("play", pile, word, rounds),
            ("play", pile, other, rounds), ("mark", pile, mark, draw.randint(-1, 5)), ("mark", pile, mark, draw.randint(0, 2)),
            ("unmark", pile, mark), ("watch", word, other), ("watch", other, other), ("unwatch", draw.randint(0, 12)),
            draw.choice((("drop",), "drop", (), ("fly", 1), ["drop", "a"], None, ("unwatch", 1, 2))),
        ))

    def drawn_deeds(self, draw):
        many = draw.choice((0, 1, 1, 2, 3, 5))
        deeds = [self.drawn_deed(draw) for deed in range(many)]
        if draw.random() < 0.7:
            deeds = [deed for deed in deeds if type(deed) is tuple and len(deed) > 1 and deed[0] != "fly"]
        return deeds

    def test_against_a_model(self):
        draw = random.Random(170)
        seen = {}
        for trial in range(40):
            room, model = Room(), ModelRoom()
            start = [("word", "a", "cut 1"), ("word", "b", "over"), ("pile", "p", 5), ("pile", "q", 2)]
            room.apply_all(start)
            model.apply_all(start)
            for step in range(60):
                kind = draw.choice(("apply", "apply", "apply", "all", "all", "trial", "undo", "redo", "capacity", "twin"))
                if kind == "apply":
                    deed = self.drawn_deed(draw)
                    found, expected = outcome(room.apply, deed), outcome(model.apply_all, [deed])
                elif kind == "all":
                    deeds = self.drawn_deeds(draw)
                    found, expected = outcome(room.apply_all, deeds), outcome(model.apply_all, deeds)
                elif kind == "trial":
                    deeds = self.drawn_deeds(draw)
                    found, expected = outcome(room.trial, deeds), outcome(model.apply_all, deeds, keep=False)
                elif kind == "capacity":
                    room.capacity = model.capacity = draw.choice((1, 2, 3, 4, 12))
                    found = expected = None
                elif kind == "twin":
                    room = room.twin()
                    found = expected = None
                else:
                    found, expected = outcome(getattr(room, kind)), outcome(getattr(model, kind))
                self.assertEqual(found, expected)
                self.assertEqual(seen_room(room), seen_model_room(model))
                if found:
                    key = found[1][0] if found[0] == "raised" else "returned"
                    seen[key] = seen.get(key, 0) + 1
        for code in ("BadName", "BadText", "TooLong", "Full", "NoWord", "InUse", "Taken", "BadSize", "NoPile", "BadRounds",
                     "NoPlace", "NoMark", "NoWatch", "BadDeed", "NothingLeft", "returned"):
            self.assertGreater(seen.get(code, 0), 0, code)


if __name__ == "__main__":
    unittest.main()
