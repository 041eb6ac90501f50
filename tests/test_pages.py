"""Point 23: pages of rooms, rooms of pages, and the first row that is wrong in every other text."""

import random
import re
import unittest

from pileports.errors import BadPage, NothingLeft
from pileports.pages import read_page, write_page
from pileports.rooms import Room
from pileports.words import Word
from tests.helpers import raised
from tests.models import GREAT_REACH, MANY_MOVES, NAMED_WORDS
from tests.room_models import outcome, seen_room
from tests.test_deeds import full_room, small_room

MOST = 10 ** 30
NAME, NUMBER = "([a-z]{1,8})", "(0|-?[1-9][0-9]{0,60})"
ROWS = {kind: re.compile(pattern) for kind, pattern in (
    ("word", f"word {NAME} (.*)"), ("pile", f"pile {NAME} {NUMBER}"), ("play", f"play {NUMBER} (.*)"),
    ("mark", f"mark {NAME} {NUMBER}"), ("watch", f"watch {NUMBER} {NAME} {NAME}"), ("next", f"next {NUMBER}"),
)}

PAGE = """word a cut 1
word abcdefgh over; face t0
word b 
word c carry t0 b0
pile empty 0
play 7 cut 1
pile great 1000000000000000000000000000000
play 1000000000000000000000000000000 cut 1
play -1000000000000000000000000000000 over; face t0
play 0 
mark ace 0
mark king 999999999999999999999999999999
mark zz 0
pile p 5
play 2 swap t0 b2; cut -2; turn t 3; turn b 2; face b0
play -1 carry b0 t3
pile q 1
mark m 0
watch 2 a b
watch 3 b abcdefgh
watch 7 c c
next 12
"""


def is_word(text):
    try:
        return str(Word.read(text)) == text
    except ValueError:
        return False


class RowsSoFar:
    """What the rows before say, for a reader that looks at one row after another."""

    def __init__(self):
        self.words, self.piles, self.watches = [], [], []
        self.size, self.plays, self.marks = None, 0, []
        self.stage = 0

    def takes(self, row):
        """Whether a row may stand here."""
        kind = row.split(" ")[0]
        found = ROWS[kind].fullmatch(row) if kind in ROWS else None
        return found is not None and self.stage < 3 and getattr(self, kind)(*found.groups())

    def word(self, name, text):
        right = self.stage == 0 and all(name > other for other in self.words) and len(self.words) < 12 and is_word(text)
        self.words.append(name)
        return right

    def pile(self, name, size):
        right = self.stage <= 1 and all(name > other for other in self.piles) and len(self.piles) < 6
        self.piles.append(name)
        self.stage, self.size, self.plays, self.marks = 1, int(size), 0, []
        return right and 0 <= self.size <= MOST

    def play(self, rounds, text):
        self.plays += 1
        return self.stage == 1 and not self.marks and self.plays <= 60 and -MOST <= int(rounds) <= MOST and is_word(text)

    def mark(self, name, place):
        right = self.stage == 1 and all(name > other for other in self.marks) and len(self.marks) < 12
        self.marks.append(name)
        return right and 0 <= int(place) < self.size

    def watch(self, number, one, other):
        right = len(self.watches) < 6 and 0 < int(number) < 10 ** 40 and one in self.words and other in self.words
        right = right and all(int(number) > before for before in self.watches)
        self.stage = 2
        self.watches.append(int(number))
        return right

    def next(self, number):
        self.stage = 3
        return 0 < int(number) < 10 ** 40 and all(int(number) > before for before in self.watches)


def first_bad_row(text):
    """The index of the first row that is wrong, or None for a page."""
    reader = RowsSoFar()
    rows = text.splitlines(keepends=True)
    for at, row in enumerate(rows):
        if not row.endswith("\n") or not reader.takes(row[:-1]):
            return at
    return None if reader.stage == 3 else len(rows)


class PagesTest(unittest.TestCase):
    def check_round(self, room):
        """A room that is read from the page of a room is equal, and goes on as the first one."""
        page = write_page(room)
        read = read_page(page)
        self.assertTrue(read == room)
        self.assertEqual((read.history(), read.capacity, read.busy), ((0, 0), 12, False))
        raised(NothingLeft, read.undo)
        raised(NothingLeft, read.redo)
        self.assertEqual(write_page(read), page)
        self.assertEqual(read.watches(), room.watches())
        self.assertEqual(read.table(), room.table())
        for name in room.piles():
            self.assertEqual(read.pile(name).marks(), room.pile(name).marks())
        other = room.twin()
        other.capacity = 12
        for deed in (("word", "a", "cut 1"), ("watch", "a", "a"), ("pile", "p", 3), ("play", "p", "a", 2), ("mark", "p", "n", 0),
                     ("unwatch", 1), ("drop", "c"), ("away", "q"), ("play", "great", "a", -5), ("unmark", "great", "ace")):
            self.assertEqual(outcome(read.apply, deed), outcome(other.apply, deed))
        self.assertTrue(read == other)
        self.assertEqual(write_page(read), write_page(other))

    def test_named_by_hand(self):
        room = Room()
        room.apply_all([('word', 'a', 'cut 1'), ('pile', 'p', 3), ('mark', 'p', 'm', 0), ('play', 'p', 'a', 2)])
        self.assertEqual(write_page(room=room), 'word a cut 1\npile p 3\nplay 2 cut 1\nmark m 0\nnext 1\n')
        self.assertEqual(write_page(Room()), "next 1\n")
        room.apply(("word", "b", ""))
        room.apply(("play", "p", "b", -1))
        self.assertEqual(write_page(room), "word a cut 1\nword b \npile p 3\nplay 2 cut 1\nplay -1 \nmark m 0\nnext 1\n")

    def test_a_page_with_everything(self):
        self.assertIsNone(first_bad_row(PAGE))
        room = read_page(text=PAGE)
        self.assertEqual(write_page(room), PAGE)
        self.assertEqual(room.words(), ["a", "abcdefgh", "b", "c"])
        self.assertEqual(room.piles(), ["empty", "great", "p", "q"])
        self.assertEqual(room.watches(), [(2, "a", "b", False), (3, "b", "abcdefgh", False), (7, "c", "c", True)])
        self.assertEqual(room.coming(), 12)
        pile = room.pile("great")
        self.assertEqual(pile.plays(), [("cut 1", 10 ** 30), ("over; face t0", -10 ** 30), ("", 0)])
        self.assertEqual({name: pile.start(place)[0] for name, place in pile.marks().items()},
                         {"ace": 0, "king": 10 ** 30 - 1, "zz": 0})
        self.check_round(room)
        self.assertEqual(room.apply(("watch", "a", "a")), [(12, True)])

    def test_the_order_of_rows(self):
        room = Room()
        room.apply_all([("word", name, "over") for name in ("c", "a", "b", "aa")])
        room.apply_all([("pile", name, 9) for name in ("z", "y", "yz")])
        room.apply_all([("mark", "y", name, 3) for name in ("q", "p", "pp")])
        room.apply_all([("play", "y", "c", 1), ("play", "y", "a", 1)])
        room.apply_all([("watch", "c", "a"), ("watch", "a", "c"), ("unwatch", 1)])
        self.assertEqual(write_page(room), "word a over\nword aa over\nword b over\nword c over\npile y 9\nplay 1 over\n"
                         "play 1 over\nmark p 3\nmark pp 3\nmark q 3\npile yz 9\npile z 9\nwatch 2 a c\nnext 3\n")
        self.check_round(room)

    def test_places_are_those_where_the_cards_started(self):
        room = Room()
        room.apply_all([("word", "a", "cut 1"), ("pile", "p", 5), ("play", "p", "a", 2), ("mark", "p", "m", 0)])
        self.assertEqual(write_page(room), "word a cut 1\npile p 5\nplay 2 cut 1\nmark m 2\nnext 1\n")
        self.assertEqual(read_page(write_page(room)).pile("p").marks(), {"m": 0})

    def test_rooms(self):
        for room in (Room(), small_room(), full_room()):
            self.check_round(room)
            kept = seen_room(room)
            room.capacity = 1
            self.assertEqual(read_page(write_page(room)).capacity, 12)
            self.assertEqual(seen_room(room)[:6], kept[:6])
        room.undo()
        self.assertEqual(read_page(write_page(room)).history(), (0, 0))

    def test_drawn_rooms(self):
        draw = random.Random(180)
        for trial in range(30):
            room = Room()
            texts = draw.sample(NAMED_WORDS + GREAT_REACH + MANY_MOVES, 12)
            room.apply_all([("word", name, text) for name, text in zip("abcdefghijkl", texts)])
            for name in draw.sample(["p", "q", "r", "great", "s", "t"], draw.randint(0, 6)):
                size = draw.choice((1, 7, 200, 10 ** 30))
                room.apply(("pile", name, size))
                for play in range(draw.randint(0, 20)):
                    room.apply(("play", name, draw.choice("abcdefghijkl"), draw.randint(-10 ** 30, 10 ** 30)))
                for mark in draw.sample(["ace", "king", "m", "zz"], draw.randint(0, 4)):
                    room.apply(("mark", name, mark, draw.randrange(size)))
            for watch in range(draw.randint(0, 6)):
                room.apply(("watch", draw.choice("abcdefghijkl"), draw.choice("abcdefghijkl")))
            self.check_round(room)

    def test_great_numbers_of_watches(self):
        great = 10 ** 40 - 1
        page = f"word a over\nwatch {great - 1} a a\nnext {great}\n"
        room = read_page(page)
        self.assertEqual((write_page(room), room.coming()), (page, great))
        self.assertEqual(room.apply(("watch", "a", "a")), [(great, True)])
        self.assertEqual(room.coming(), 10 ** 40)
        # Its next number has 41 digits, so this page cannot be read.
        self.assertEqual(write_page(room), f"word a over\nwatch {great - 1} a a\nwatch {great} a a\nnext {10 ** 40}\n")
        self.assertEqual(raised(BadPage, read_page, write_page(room)).row, 3)


class BadPagesTest(unittest.TestCase):
    def check(self, text):
        """A text is refused at the row that the model names, or it is the page of the room that is read."""
        expected = first_bad_row(text)
        if expected is None:
            self.assertEqual(write_page(read_page(text)), text)
        else:
            self.assertEqual(raised(BadPage, read_page, text).row, expected, text)
        return expected

    def refused(self, text, row):
        self.assertEqual(raised(BadPage, read_page, text).row, row, text)
        self.assertEqual(first_bad_row(text), row, text)

    def changed(self, row, *others):
        """The page with other rows instead of one."""
        rows = PAGE.splitlines(keepends=True)
        at = rows.index(row + "\n")
        return "".join(rows[:at] + [other + "\n" for other in others] + rows[at + 1:]), at

    def test_the_empty_text(self):
        self.refused("", 0)
        self.refused("\n", 0)
        self.refused(" ", 0)

    def test_cut_off(self):
        rows = PAGE.splitlines(keepends=True)
        for many in range(len(rows)):
            self.refused("".join(rows[:many]), many)
        for many in range(len(PAGE)):
            self.assertIsNotNone(self.check(PAGE[:many]))
        # Without its last line feed, the last row is the wrong one.
        self.refused(PAGE[:-1], len(rows) - 1)
        self.refused("next 1", 0)

    def test_doubled(self):
        rows = PAGE.splitlines(keepends=True)
        seen = []
        for at in range(len(rows)):
            seen.append(self.check("".join(rows[:at + 1] + rows[at:])))
        # Only plays may stand twice.
        self.assertEqual([at for at, row in enumerate(seen) if row is None], [5, 7, 8, 9, 14, 15])
        self.assertEqual([row for row in seen if row is not None], [at + 1 for at in range(22) if seen[at] is not None])

    def test_swapped(self):
        rows = PAGE.splitlines(keepends=True)
        for one in range(len(rows)):
            for other in range(one):
                swapped = list(rows)
                swapped[one], swapped[other] = rows[other], rows[one]
                self.check("".join(swapped))

    def test_left_out_and_moved(self):
        rows = PAGE.splitlines(keepends=True)
        for one in range(len(rows)):
            rest = rows[:one] + rows[one + 1:]
            self.check("".join(rest))
            for other in range(len(rows)):
                self.check("".join(rest[:other] + [rows[one]] + rest[other:]))

    def test_bent(self):
        for at in range(len(PAGE)):
            for sign in " a0-\n;!":
                self.check(PAGE[:at] + sign + PAGE[at + 1:])
                self.check(PAGE[:at] + sign + PAGE[at:])
            self.check(PAGE[:at] + PAGE[at + 1:])

    def test_numbers(self):
        for row, others in (
            ("pile p 5", ("pile p 05", "pile p +5", "pile p -5", "pile p -0", "pile p ", "pile p", "pile p 5 ", "pile p  5",
                          "pile p 1000000000000000000000000000001", "pile p 5 5", "pile p x", "pile p -1", "pile p 00",
                          "pile p " + "1" * 5000)),
            ("play 7 cut 1", ("play 07 cut 1", "play +7 cut 1", "play -0 cut 1", "play  cut 1", "play cut 1", "play 7",
                              "play 7  cut 1", "play 7 cut 1 ", "play 7 cut 01", "play 7 cut 61", "play 7 flip",
                              "play 1000000000000000000000000000001 cut 1", "play -1000000000000000000000000000001 cut 1",
                              "play 7 " + "; ".join(["over"] * 41), "play 7 over; ", "play x over")),
            ("mark ace 0", ("mark ace 00", "mark ace -0", "mark ace -1", "mark ace", "mark ace ", "mark ace 0 ", "mark ace +0",
                            "mark ace 1000000000000000000000000000000", "mark Ace 0", "mark  0", "mark 0", "mark abcdefghi 0")),
            ("mark m 0", ("mark m 1", "mark m -1", "mark m 01")),
            ("watch 2 a b", ("watch 02 a b", "watch 0 a b", "watch -2 a b", "watch a b", "watch 2 a", "watch 2 a b ",
                             "watch 2 a z", "watch 2 z b", "watch 2 a p", "watch 2 a b b", "watch 2  b",
                             "watch " + "1" * 41 + " a b", "watch 2 a bb", "watch 3 a b b")),
            ("next 12", ("next 012", "next 0", "next -12", "next", "next ", "next 12 ", "next 12 1", "next 7", "next 6",
                         "next " + "1" * 41, "next +12", "next x", "next 1" + "0" * 40, "next " + "9" * 5000)),
            ("word b ", ("word b", "word B ", "word b  ", "word  ", "word ", "word", "word abc", "word abcdefghi over",
                         "word b over ", "word b  over", "word b over;over", "word b over; ", "word b1 over", "word b cut 61",
                         "word b " + "; ".join(["over"] * 41), "words b ", " word b ", "Word b ", "word b !")),
            ("pile q 1", ("pile Q 1", "pile  1", "pile 1", "pile abcdefghi 1", "pile q1 1", "pile empty 1", "pile p 1")),
        ):
            for other in others:
                text, at = self.changed(row, other)
                self.refused(text, at)

    def test_what_may_be_changed(self):
        for row, others in (
            ("pile p 5", ("pile p 0", "pile p 1000000000000000000000000000000", "pile pp 5")),
            ("play 7 cut 1", ("play -7 ", "play 0 cut 60", "play 1 " + "; ".join(["over"] * 40))),
            ("mark m 0", ("mark n 0",)),
            ("watch 2 a b", ("watch 1 c c", "watch 2 b b")),
            ("next 12", ("next 8", "next " + "9" * 40)),
            ("word b ", ("word b cut -60", "word bb turn t 0", "word b over")),
        ):
            for other in others:
                text, at = self.changed(row, other)
                if other == "word bb turn t 0":
                    # The watches name a word that is no longer there.
                    self.refused(text, PAGE.splitlines().index("watch 2 a b"))
                else:
                    self.assertEqual(write_page(read_page(text)), text)

    def test_order_and_repetition(self):
        for row, others, bad in (
            ("word b ", ("word b ", "word b over"), 1), ("word b ", ("word ab over",), 0), ("word c carry t0 b0", ("word a ",), 0),
            ("pile p 5", ("pile great 5",), 0), ("pile q 1", ("pile p 5",), 0), ("pile q 1", ("pile a 1",), 0),
            ("mark king 999999999999999999999999999999", ("mark ace 1",), 0), ("mark zz 0", ("mark king 0",), 0),
            ("mark zz 0", ("mark zz 0", "play 1 over"), 1), ("mark zz 0", ("play 1 over",), 0),
            ("watch 3 b abcdefgh", ("watch 2 b b",), 0), ("watch 3 b abcdefgh", ("watch 1 b b",), 0),
            ("watch 7 c c", ("watch 7 c c", "watch 7 c c"), 1), ("watch 7 c c", ("watch 7 c c", "pile z 3"), 1),
            ("watch 7 c c", ("watch 7 c c", "word z "), 1), ("watch 7 c c", ("watch 7 c c", "play 1 over"), 1),
            ("watch 7 c c", ("watch 7 c c", "mark x 0"), 1), ("pile q 1", ("pile q 1", "word z over"), 1),
            ("word a cut 1", ("play 1 over", "word a cut 1"), 0), ("word a cut 1", ("mark a 0", "word a cut 1"), 0),
            ("word a cut 1", ("watch 1 a a", "word a cut 1"), 0), ("pile empty 0", ("watch 1 a a", "pile empty 0"), 1),
            ("pile empty 0", ("mark a 0",), 0), ("pile empty 0", ("play 1 over",), 0),
            ("pile empty 0", ("pile empty 0", "mark a 0"), 1),
            ("next 12", ("next 12", "next 12"), 1), ("next 12", ("next 12", "word z over"), 1), ("next 12", ("next 12", ""), 1),
            ("next 12", ("next 12", "watch 12 a a"), 1), ("next 12", ("next 12", "next 13"), 1), ("next 12", ("",), 0),
        ):
            text, at = self.changed(row, *others)
            self.refused(text, at + bad)

    def test_rows_behind_the_last_one(self):
        rows = len(PAGE.splitlines())
        for more in ("\n", " ", "x", "next 13", "next 13\n", "word z over\n", "\n\n"):
            self.refused(PAGE + more, rows)

    def test_without_the_row_next(self):
        rows = PAGE.splitlines(keepends=True)
        self.refused("".join(rows[:-1]), len(rows) - 1)
        self.refused("word a over\n", 1)
        self.refused("pile p 3\nplay 1 over\n", 2)

    def test_too_many(self):
        words = [f"word {name} over\n" for name in "abcdefghijklm"]
        piles = [f"pile {name} 3\n" for name in "abcdefg"]
        watches = [f"watch {number} a a\n" for number in range(1, 8)]
        marks = [f"mark {name} 2\n" for name in "abcdefghijklm"]
        plays = ["play 1 over\n"] * 61
        for rows, most in ((words, 12), (piles, 6), (words[:1] + watches, 7), (piles[:1] + marks, 13), (piles[:1] + plays, 61)):
            self.refused("".join(rows) + "next 9\n", most)
            fits = "".join(rows[:most]) + "next 9\n"
            self.assertEqual(write_page(read_page(fits)), fits)
        full = "".join(words[:12] + piles[:1] + plays[:60] + marks[:12] + piles[1:6] + watches[:6]) + "next 7\n"
        self.assertEqual(write_page(read_page(full)), full)

    def test_drawn_texts(self):
        draw = random.Random(181)
        rows = PAGE.splitlines(keepends=True)
        for trial in range(600):
            chosen = sorted(draw.sample(range(len(rows)), draw.randint(1, len(rows))))
            text = "".join(rows[at] for at in chosen)
            if draw.random() < 0.5:
                text += "next 99\n"
            self.check(text)


if __name__ == "__main__":
    unittest.main()
