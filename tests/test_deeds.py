"""Points 20 and 21: the deeds, each of their errors, and the order in which the errors are checked."""

import unittest

from pileports.errors import BadDeed, BadName, BadRounds, BadSize, BadText, Full, InUse, NoMark, NoPile, NoPlace, NoWatch
from pileports.errors import NoWord, Taken, TooLong
from pileports.rooms import Room
from pileports.words import Word
from tests.helpers import raised
from tests.room_models import seen_room

BAD_NAMES = ("", "abcdefghi", "A", "a b", "a1", "1", "a-b", "a\n", " ", "aAa")


def small_room():
    """A room with two words, a pile with a play and a mark, and a watch."""
    room = Room()
    room.apply_all([("word", "a", "cut 1"), ("word", "b", "over; face t0"), ("pile", "p", 5), ("play", "p", "a", 2),
                    ("mark", "p", "m", 1), ("watch", "a", "b")])
    return room


def full_room():
    """A room with 12 words, 6 piles and 6 watches; its pile a has 60 plays and 12 marks."""
    room = Room()
    room.apply_all([("word", name, "cut 1") for name in "abcdefghijkl"])
    room.apply_all([("pile", name, 3) for name in "abcdef"])
    room.apply_all([("watch", "a", name) for name in "bcdefg"])
    room.apply_all([("play", "a", "a", 1)] * 60)
    room.apply_all([("mark", "a", name, 0) for name in "abcdefghijkl"])
    return room


class RefusedTest(unittest.TestCase):
    def refused(self, room, deed, error, value):
        """The deed raises just this error, alone and in a list, also in a trial, and nothing changes."""
        kept = seen_room(room)
        attribute = [name for name in ("name", "at", "limit", "number", "size", "rounds", "place")
                     if name in vars(error(value))][0]
        for call in (lambda: room.apply(deed), lambda: room.apply_all([deed]), lambda: room.apply_all((deed,)),
                     lambda: room.trial([deed])):
            self.assertEqual(vars(raised(error, call)), {"code": error.__name__, attribute: value}, deed)
            self.assertEqual(seen_room(room), kept, deed)
            self.assertFalse(room.busy)

    def test_word(self):
        room, full = small_room(), full_room()
        for name in BAD_NAMES:
            self.refused(full, ("word", name, "flip"), BadName, name)
        self.refused(full, ("word", "z", "flip"), BadText, 0)
        self.refused(full, ("word", "z", "cut 61; over; flip; cut"), BadText, 2)
        self.refused(full, ("word", "z", "over; "), BadText, 1)
        self.refused(full, ("word", "z", "cut 61"), TooLong, 60)
        self.refused(full, ("word", "z", "; ".join(["over"] * 41)), TooLong, 40)
        self.refused(full, ("word", "z", "cut 60"), Full, 12)
        self.refused(room, ("word", "a", "cut 01"), BadText, 0)
        self.refused(room, ("word", "a", "cut 61"), TooLong, 60)

    def test_drop(self):
        room = small_room()
        for name in ("z", "", "A", "p", "m"):
            self.refused(room, ("drop", name), NoWord, name)
        self.refused(room, ("drop", "a"), InUse, 1)
        self.refused(room, ("drop", "b"), InUse, 1)
        room.apply_all([("watch", "b", "b"), ("watch", "a", "a")])
        room.apply(("unwatch", 1))
        self.refused(room, ("drop", "a"), InUse, 3)
        self.refused(room, ("drop", "b"), InUse, 2)
        room.apply(("watch", "a", "b"))
        self.refused(room, ("drop", "a"), InUse, 3)

    def test_pile(self):
        room, full = small_room(), full_room()
        for name in BAD_NAMES:
            self.refused(full, ("pile", name, -1), BadName, name)
        self.refused(full, ("pile", "a", -1), Taken, "a")
        self.refused(full, ("pile", "a", 3), Taken, "a")
        self.refused(room, ("pile", "p", 3), Taken, "p")
        for size in (-1, 10 ** 30 + 1):
            self.refused(full, ("pile", "z", size), BadSize, size)
            self.refused(room, ("pile", "z", size), BadSize, size)
        self.refused(full, ("pile", "z", 3), Full, 6)

    def test_away(self):
        room = small_room()
        for name in ("z", "", "A", "a", "m"):
            self.refused(room, ("away", name), NoPile, name)

    def test_play(self):
        room, full = small_room(), full_room()
        self.refused(full, ("play", "z", "zz", 10 ** 31), NoPile, "z")
        self.refused(full, ("play", "a", "zz", 10 ** 31), NoWord, "zz")
        for rounds in (10 ** 30 + 1, -10 ** 30 - 1):
            self.refused(full, ("play", "a", "a", rounds), BadRounds, rounds)
            self.refused(room, ("play", "p", "a", rounds), BadRounds, rounds)
        self.refused(full, ("play", "a", "a", 0), Full, 60)
        # Words and piles have names of their own.
        self.refused(room, ("play", "a", "p", 1), NoPile, "a")
        self.refused(room, ("play", "p", "p", 1), NoWord, "p")

    def test_mark(self):
        room, full = small_room(), full_room()
        self.refused(full, ("mark", "z", "A", -1), NoPile, "z")
        for name in BAD_NAMES:
            self.refused(full, ("mark", "a", name, -1), BadName, name)
        self.refused(full, ("mark", "a", "b", -1), Taken, "b")
        self.refused(full, ("mark", "a", "z", -1), NoPlace, -1)
        self.refused(full, ("mark", "a", "z", 3), NoPlace, 3)
        self.refused(full, ("mark", "a", "z", 2), Full, 12)
        self.refused(room, ("mark", "p", "m", 0), Taken, "m")

    def test_unmark(self):
        room = small_room()
        self.refused(room, ("unmark", "z", "z"), NoPile, "z")
        self.refused(room, ("unmark", "a", "m"), NoPile, "a")
        for name in ("z", "", "A", "a", "p"):
            self.refused(room, ("unmark", "p", name), NoMark, name)

    def test_watch(self):
        full = full_room()
        self.refused(full, ("watch", "z", "y"), NoWord, "z")
        self.refused(full, ("watch", "a", "y"), NoWord, "y")
        self.refused(full, ("watch", "z", "a"), NoWord, "z")
        self.refused(full, ("watch", "a", "b"), Full, 6)
        self.refused(small_room(), ("watch", "p", "a"), NoWord, "p")

    def test_unwatch(self):
        room = small_room()
        for number in (0, 2, -1, 10 ** 39):
            self.refused(room, ("unwatch", number), NoWatch, number)
        room.apply(("unwatch", 1))
        self.refused(room, ("unwatch", 1), NoWatch, 1)


class DoneTest(unittest.TestCase):
    def test_words(self):
        room = Room()
        self.assertEqual(room.apply(("word", "ace", "cut 1; over")), [])
        self.assertEqual(room.apply(("word", "abcdefgh", "")), [])
        self.assertEqual(room.words(), ["abcdefgh", "ace"])
        self.assertEqual(room.get("ace"), Word.read("cut 1; over"))
        self.assertEqual(room.get(name="abcdefgh"), Word())
        self.assertEqual(room.apply(("word", "ace", "face b0")), [])
        self.assertEqual((room.words(), str(room.get("ace"))), (["abcdefgh", "ace"], "face b0"))
        self.assertEqual(room.apply(deed=("drop", "ace")), [])
        self.assertEqual(room.words(), ["abcdefgh"])
        self.assertEqual(raised(NoWord, room.get, "ace").name, "ace")

    def test_piles(self):
        room = Room()
        room.apply_all([("pile", "q", 10 ** 30), ("pile", "p", 0), ("word", "p", "cut 1")])
        self.assertEqual((room.piles(), room.words()), (["p", "q"], ["p"]))
        self.assertEqual([room.pile("p").cards, room.pile(name="q").cards], [0, 10 ** 30])
        room.apply(("away", "q"))
        self.assertEqual(room.piles(), ["p"])
        self.assertEqual(raised(NoPile, room.pile, "q").name, "q")
        room.apply(("pile", "q", 3))
        self.assertEqual(room.pile("q").cards, 3)

    def test_plays_and_marks(self):
        room = small_room()
        pile = room.pile("p")
        self.assertEqual((pile.plays(), pile.marks(), pile.history()), ([("cut 1", 2)], {"m": 1}, (0, 0)))
        self.assertEqual(pile.start(1), (3, False))
        room.apply(("play", "p", "b", -1))
        self.assertEqual(room.pile("p").plays(), [("cut 1", 2), ("over; face t0", -1)])
        room.apply(("mark", "p", "n", 4))
        room.apply(("unmark", "p", "m"))
        self.assertEqual(room.pile("p").marks(), {"n": 4})
        room.apply(("play", "p", "a", 10 ** 30))
        room.apply(("play", "p", "a", -10 ** 30))
        room.apply(("play", "p", "a", 0))
        self.assertEqual(room.pile("p").plays()[2:], [("cut 1", 10 ** 30), ("cut 1", -10 ** 30), ("cut 1", 0)])

    def test_plays_keep_the_moves_of_their_time(self):
        room = small_room()
        room.apply_all([("unwatch", 1), ("word", "a", "over"), ("play", "p", "a", 1), ("drop", "a")])
        self.assertEqual(room.pile("p").plays(), [("cut 1", 2), ("over", 1)])
        self.assertEqual(room.pile("p").now(0), (1, True))

    def test_watches(self):
        room = Room()
        room.apply_all([("word", "a", "cut 1"), ("word", "b", "cut 2; cut -1")])
        self.assertEqual(room.apply(("watch", "a", "b")), [(1, True)])
        self.assertEqual(room.apply(("watch", "b", "b")), [(2, True)])
        self.assertEqual((room.watches(), room.coming()), ([(1, "a", "b", True), (2, "b", "b", True)], 3))
        self.assertEqual(room.apply(("unwatch", 1)), [])
        self.assertEqual((room.watches(), room.coming()), ([(2, "b", "b", True)], 3))
        self.assertEqual(room.apply(("watch", "b", "a")), [(3, True)])
        self.assertEqual(room.watches(), [(2, "b", "b", True), (3, "b", "a", True)])

    def test_words_of_the_full_room(self):
        room = full_room()
        self.assertEqual((len(room), len(room.piles()), len(room.watches())), (12, 6, 6))
        self.assertEqual((Room.MOST_WORDS, Room.MOST_PILES, Room.MOST_WATCHES), (12, 6, 6))
        # A word that is replaced takes no room, and what is removed makes room.
        self.assertEqual(room.apply(("word", "l", "over")), [])
        room.apply_all([("drop", "l"), ("word", "z", "over")])
        room.apply_all([("away", "f"), ("pile", "z", 1)])
        room.apply_all([("unwatch", 6), ("watch", "z", "z")])
        room.apply_all([("unmark", "a", "l"), ("mark", "a", "z", 2)])
        self.assertEqual((room.words()[-1], room.piles()[-1], room.watches()[-1]), ("z", "z", (7, "z", "z", True)))


class BadDeedTest(unittest.TestCase):
    BAD = (
        None, 5, "word", "drop a", ["drop", "b"], ["word", "a", "cut 1"], {"word": 1}, (), ("",), ("fly",), ("fly", "a"),
        ("Word", "a", "over"), ("word ", "a", "over"), (5, "a"), (None,), (("word", "a"), "over"), (["word"], "a", "b"),
        ({}, "a"), (True, "a"), ("word",), ("word", "a"), ("word", "a", "over", 1), ("drop",), ("drop", "b", "b"), ("pile", "q"),
        ("pile", "q", 1, 1), ("away",), ("away", "p", "p"), ("play", "p", "a"), ("play", "p", "a", 1, 1), ("mark", "p", "n"),
        ("mark", "p", "n", 0, 0), ("unmark", "p"), ("unmark", "p", "m", 0), ("watch", "a"), ("watch", "a", "b", "b"),
        ("unwatch",), ("unwatch", 1, 2), ("undo",), ("redo",), ("show", "a"),
    )

    def test_each(self):
        room = small_room()
        kept = seen_room(room)
        for bad in self.BAD:
            self.assertEqual(raised(BadDeed, room.apply, bad).at, 0, bad)
            for call in (room.apply_all, room.trial):
                self.assertEqual(raised(BadDeed, call, [bad]).at, 0)
                self.assertEqual(raised(BadDeed, call, [("drop", "b"), ("word", "c", "over"), bad, None]).at, 2)
        self.assertEqual(seen_room(room), kept)

    def test_ahead_of_all_other_errors(self):
        room = small_room()
        kept = seen_room(room)
        for call in (room.apply_all, room.trial):
            for first in (("drop", "zz"), ("word", "A", "flip"), ("pile", "q", -1), ("unwatch", 7)):
                self.assertEqual(raised(BadDeed, call, [first, ("word", "c", "over"), ("word", "c")]).at, 2)
        self.assertEqual(seen_room(room), kept)

    def test_none_is_done_before(self):
        room = small_room()
        raised(BadDeed, room.apply_all, [("word", "c", "over"), ("pile", "q", 3), ()])
        self.assertEqual((room.words(), room.piles(), room.history()), (["a", "b"], ["p"], (1, 0)))


class ListsTest(unittest.TestCase):
    def test_all_or_none(self):
        room = small_room()
        kept = seen_room(room)
        good = [("unwatch", 1), ("drop", "a"), ("word", "c", "over"), ("pile", "q", 4), ("play", "q", "c", 3),
                ("mark", "q", "n", 0), ("mark", "p", "n", 0), ("unmark", "p", "m"), ("away", "p"), ("watch", "b", "c")]
        for many in range(len(good) + 1):
            for call in (room.apply_all, room.trial):
                raised(NoPile, call, good[:many] + [("away", "zz")] + good[many:])
                self.assertEqual(seen_room(room), kept)
        self.assertEqual(room.apply_all(deeds=good), [(2, False)])
        self.assertEqual((room.words(), room.piles(), room.history()), (["b", "c"], ["q"], (2, 0)))
        self.assertEqual(room.pile("q").plays(), [("over", 3)])
        room.undo()
        room.redo()
        self.assertEqual((room.words(), room.piles(), room.watches()), (["b", "c"], ["q"], [(2, "b", "c", False)]))
        room.undo()
        self.assertEqual(seen_room(room)[:6], kept[:6])

    def test_the_first_deed_that_is_refused_counts(self):
        room = small_room()
        deeds = [("word", "c", "over"), ("drop", "zz"), ("word", "A", "over")]
        self.assertEqual(raised(NoWord, room.apply_all, deeds).name, "zz")
        self.assertEqual(raised(BadName, room.apply_all, deeds[::-1]).name, "A")

    def test_later_deeds_see_the_earlier_ones(self):
        room = Room()
        self.assertEqual(raised(NoWord, room.apply_all, [("watch", "a", "a"), ("word", "a", "over")]).name, "a")
        self.assertEqual(room.apply_all([("word", "a", "over"), ("watch", "a", "a")]), [(1, True)])
        self.assertEqual(raised(NoPile, room.apply_all, [("pile", "p", 1), ("away", "p"), ("away", "p")]).name, "p")

    def test_an_empty_list_is_a_step(self):
        for deeds in ([], ()):
            room = small_room()
            self.assertEqual(room.apply_all(deeds), [])
            self.assertEqual(room.history(), (2, 0))
            room.undo()
            self.assertEqual(room.history(), (1, 1))
            self.assertEqual(room.apply_all(deeds), [])
            self.assertEqual(room.history(), (2, 0))

    def test_lists_are_not_changed(self):
        room = Room()
        deeds = [("word", "a", "over"), ("pile", "p", 3), ("play", "p", "a", 1)]
        kept = list(deeds)
        room.apply_all(deeds)
        self.assertEqual(deeds, kept)
        deeds.clear()
        room.undo()
        room.redo()
        self.assertEqual(room.pile("p").plays(), [("over", 1)])


if __name__ == "__main__":
    unittest.main()
