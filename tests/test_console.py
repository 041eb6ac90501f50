"""Point 24: the deeds and questions of consoles, their errors, and the lines that are invalid."""

import random
import unittest

from pileports.alike import first_difference
from pileports.console import Console
from pileports.pages import write_page
from pileports.rooms import Room
from pileports.steady import form_of, steady_from
from pileports.ways import order
from pileports.words import Word
from tests.models import GREAT_REACH, MANY_MOVES, NAMED_WORDS
from tests.room_models import outcome, seen_room
from tests.test_deeds import full_room

LONG = "1" * 31
TOO_LONG = "1" * 32


class SessionTest(unittest.TestCase):
    def run_all(self, console, *pairs):
        for line, answer in pairs:
            self.assertEqual(console.run(line), answer, line)

    def test_named_by_hand(self):
        console = Console()
        first = console.run('word a cut 1')
        self.assertEqual([first, console.run('order a 12'), console.run('show b'), console.run('show')],
                         ['ok', '12', 'error NoWord', 'invalid'])

    def test_every_deed_and_question(self):
        console = Console()
        self.run_all(
            console, ("words", "none"), ("piles", "none"), ("word a cut 1", "ok"), ("word c over; face t0", "ok"), ("word b ", "ok"),
            ("words", "a b c"), ("show a", "cut 1"), ("show b", "empty"), ("show c", "over; face t0"),
            ("form a", "still -1 t0>b0 |"), ("form b", "still 0 |"), ("steady a", "1"), ("steady b", "0"),
            ("order a 12", "12"), ("order b 0", "1"), ("order c 4", "4"), ("order a 1000000000000000000000000000000", str(10 ** 30)),
            ("alike a b 0", "yes"), ("alike a b 1", "yes"), ("alike a b 2", "no"), ("alike a a 1000000000000000000000000000000", "yes"),
            ("watch a b", "1:no"), ("watch a a", "2:yes"), ("word b carry t0 b0", "1:yes"), ("word b over", "1:no"),
            ("unwatch 1", "ok"), ("drop b", "ok"), ("undo", "ok"), ("words", "a b c"), ("redo", "ok"), ("words", "a c"),
            ("pile p 5", "ok"), ("pile great 1000000000000000000000000000000", "ok"), ("piles", "great p"),
            ("play p a 2", "ok"), ("start p 0", "2 same"), ("mark p m 0", "ok"), ("where p m", "0 same"), ("play p c -1", "ok"),
            ("where p m", "4 same"), ("start p 4", "2 same"), ("start p 0", "1 turned"), ("unmark p m", "ok"),
            ("where p m", "error NoMark"), ("undo", "ok"), ("where p m", "4 same"), ("word d over", "ok"), ("play p d 1", "ok"),
            ("where p m", "0 turned"), ("start p 0", "2 turned"), ("start p 4", "1 same"), ("undo", "ok"), ("undo", "ok"),
            ("play great a -1000000000000000000000000000000", "ok"), ("start great 7", "7 same"),
            ("mark great ace 999999999999999999999999999999", "ok"), ("where great ace", f"{10 ** 30 - 1} same"),
            ("away great", "ok"), ("piles", "p"), ("drop c", "ok"), ("drop a", "error InUse"), ("words", "a"),
        )

    def test_news_of_several_watches(self):
        console = Console()
        for name in "abc":
            console.run(f"word {name} over")
        self.run_all(console, ("watch a b", "1:yes"), ("watch b c", "2:yes"), ("watch a c", "3:yes"), ("word b cut 1", "1:no 2:no"),
                     ("word a cut 1", "1:yes 3:no"), ("undo", "ok"), ("redo", "ok"), ("word b cut 1; over; over", "ok"))

    def test_texts(self):
        console = Console()
        self.run_all(
            console, ("word a ", "ok"), ("word a  ", "error BadText"), ("word a over ", "error BadText"), ("word a  over", "error BadText"),
            ("word a over;  over", "error BadText"), ("word a over; over", "ok"), ("word a over over", "error BadText"),
            ("word a cut 61", "error TooLong"), ("word a " + "; ".join(["over"] * 41), "error TooLong"), ("word a over\n", "error BadText"),
            ("word a \n", "error BadText"), ("show a", "over; over"),
        )

    def test_all_forms_orders_and_steady_sizes(self):
        for text in NAMED_WORDS + GREAT_REACH + MANY_MOVES:
            console = Console()
            word = Word.read(text)
            size = 10 ** 30 - len(text)
            other = first_difference(word, Word.read("cut 1"), size)
            self.run_all(console, ("word a " + text, "ok"), ("word b cut 1", "ok"), ("show a", text or "empty"),
                         ("form a", str(form_of(word))), ("steady a", str(steady_from(word))),
                         (f"order a {size}", str(order(word, size))), (f"alike a b {size}", "yes" if other is None else "no"))


class ErrorsTest(unittest.TestCase):
    def check(self, room, *pairs):
        console = Console(room=room)
        kept = seen_room(room) if max([room.pile(name).cards for name in room.piles()], default=0) < 99 else None
        for line, code in pairs:
            self.assertEqual(console.run(line), "error " + code, line)
        if kept:
            self.assertEqual(seen_room(room), kept)

    def test_each(self):
        self.check(
            full_room(), ("word Z flip", "BadName"), ("word abcdefghi over", "BadName"), ("word z flip", "BadText"),
            ("word z cut 61", "TooLong"), ("word z over", "Full"), ("word z ", "Full"), ("drop z", "NoWord"), ("drop a", "InUse"),
            ("pile Z -1", "BadName"), ("pile a -1", "Taken"), ("pile z -1", "BadSize"), ("pile z " + LONG, "BadSize"),
            ("pile z 3", "Full"), ("away z", "NoPile"), ("play z zz " + LONG, "NoPile"), ("play a zz " + LONG, "NoWord"),
            ("play a a " + LONG, "BadRounds"), ("play a a -" + LONG, "BadRounds"), ("play a a 1", "Full"),
            ("mark z Z -1", "NoPile"), ("mark a Z -1", "BadName"), ("mark a a -1", "Taken"), ("mark a z -1", "NoPlace"),
            ("mark a z 3", "NoPlace"), ("mark a z 0", "Full"), ("unmark z z", "NoPile"), ("unmark a z", "NoMark"),
            ("watch z y", "NoWord"), ("watch a y", "NoWord"), ("watch a b", "Full"), ("unwatch 7", "NoWatch"), ("unwatch 0", "NoWatch"),
            ("unwatch -1", "NoWatch"), ("redo", "NothingLeft"), ("show z", "NoWord"), ("form z", "NoWord"), ("steady z", "NoWord"),
            ("order z -1", "NoWord"), ("order a -1", "BadSize"), ("order a " + LONG, "BadSize"), ("alike z y -1", "NoWord"),
            ("alike a y -1", "NoWord"), ("alike a b -1", "BadSize"), ("alike a b " + LONG, "BadSize"), ("where z z", "NoPile"),
            ("where a z", "NoMark"), ("start z -1", "NoPile"), ("start a -1", "NoPlace"), ("start a 3", "NoPlace"),
            ("show a\nb", "NoWord"), ("drop \n", "NoWord"), ("word \n over", "BadName"), ("where A! {", "NoPile"),
        )
        self.check(Room(), ("undo", "NothingLeft"), ("redo", "NothingLeft"), ("word A over", "BadName"))

    def test_errors_change_nothing_but_the_log(self):
        console = Console()
        console.run("word a over")
        page = write_page(console.room())
        for line in ("drop z", "word b flip", "undo x", "unwatch 1"):
            console.run(line)
        self.assertEqual((write_page(console.room()), console.room().history(), len(console)), (page, (1, 0), 5))


INVALID = (
    "", " ", "  ", "\n", "fly", "Words", "words ", " words", "words a", "words  ", "piles a", "piles ", " piles", "undo 1", "undo ", " undo",
    "redo redo", "redo ", "undo\n", "words\n", "word", "word a", "word ", "word  ", "word  over", " word a over", "word\n a over", "Word a over",
    "drop", "drop ", "drop a b", "drop  a", "drop a ", " drop a", "pile p", "pile p ", "pile  5", "pile p 5 ", "pile p  5", "pile p 5 5", "pile 5",
    "pile p 05", "pile p +5", "pile p -0", "pile p 00", "pile p x", "pile p 5x", "pile p 5\n", "pile p " + TOO_LONG, "pile p -" + TOO_LONG,
    "pile p 1.", "pile p 1_0", "pile A 05", "away", "away ", "away p p", "play p a", "play p a ", "play p a 1 1", "play p  a 1", "play p a 01",
    "play p a -01", "play p a --1", "play p a " + TOO_LONG, "play p a x", "play a 1", "mark p m", "mark p m x", "mark p m 0 0", "mark p  0",
    "mark p m 00", "mark p m " + TOO_LONG, "unmark p", "unmark p m m", "unmark p  m", "watch a", "watch a a a", "watch a  a", "watch  a",
    "watch a a ", "unwatch", "unwatch ", "unwatch x", "unwatch 01", "unwatch 1 1", "unwatch 1 ", "unwatch " + TOO_LONG, "unwatch +1", "show", "show ",
    "show a a", "show  a", "form", "form a 1", "form ", "steady", "steady a 5", "steady  a", "order a", "order a x", "order a 01", "order a -0",
    "order 5", "order a 5 5", "order a  5", "order a " + TOO_LONG, "order z x", "alike a a", "alike a 5", "alike a a x", "alike a a 5 5", "alike a a 05",
    "alike a  a 5", "alike a a " + TOO_LONG, "where p", "where p m m", "where p ", "where  m", "start p", "start p x", "start p 00", "start p 0 0",
    "start z 00", "start p -0", "start p " + TOO_LONG, "error NoWord", "ok", "none", "next 1", "play 1 over", "coming", "table", "capacity 3",
)


class InvalidTest(unittest.TestCase):
    def test_ahead_of_all_errors(self):
        for room in (Room(), full_room()):
            console = Console(room=room)
            page, history = write_page(room), room.history()
            for at, line in enumerate(INVALID):
                self.assertEqual(console.run(line), "invalid", line)
                self.assertEqual(len(console), at + 1)
            self.assertEqual((write_page(room), room.history()), (page, history))
            self.assertEqual(console.log(), [(line, "invalid") for line in INVALID])

    def test_words_left_out_or_added(self):
        room = full_room()
        for line in ("drop a", "pile z 3", "away a", "play a a 1", "mark a z 0", "unmark a a", "watch a b", "unwatch 1", "undo", "redo", "words",
                     "piles", "show a", "form a", "steady a", "order a 5", "alike a b 5", "where a a", "start a 0"):
            words = line.split(" ")
            console = Console(room=room.twin())
            for at in range(len(words)):
                self.assertEqual(console.run(" ".join(words[:at])), "invalid", line)
                self.assertEqual(console.run(" ".join(words[:at] + [""] + words[at:])), "invalid", line)
            for more in ("", "a", "1", "\n"):
                self.assertEqual(console.run(" ".join(words + [more])), "invalid", line)
            self.assertNotEqual(console.run(line), "invalid", line)

    def test_numbers_of_31_digits(self):
        console = Console()
        console.run("word a cut 1")
        for line, answer in (("pile p " + LONG, "error BadSize"), ("pile p -" + LONG, "error BadSize"), ("unwatch " + LONG, "error NoWatch"),
                             ("pile p 1000000000000000000000000000000", "ok"), ("play p a 1000000000000000000000000000001", "error BadRounds"),
                             ("start p -" + LONG, "error NoPlace"), ("alike a a " + LONG, "error BadSize")):
            self.assertEqual(console.run(line), answer, line)


class LogTest(unittest.TestCase):
    def test_all_lines_are_kept(self):
        console = Console()
        self.assertEqual((console.log(), len(console)), ([], 0))
        console.run("word a over")
        console.run("nothing")
        console.run("show b")
        console.run(line="words")
        expected = [("word a over", "ok"), ("nothing", "invalid"), ("show b", "error NoWord"), ("words", "a")]
        self.assertEqual((console.log(), len(console)), (expected, 4))
        console.log().clear()
        console.log().append(None)
        self.assertEqual((console.log(), len(console)), (expected, 4))

    def test_rooms(self):
        # A room without words counts as False, and is used all the same.
        room = Room()
        console = Console(room=room)
        self.assertIs(console.room(), room)
        console.run("word a over")
        self.assertEqual(room.words(), ["a"])
        room.apply(("drop", "a"))
        self.assertEqual(console.run("words"), "none")
        self.assertIsNot(Console().room(), Console().room())
        self.assertEqual(Console(room=None).room(), Room())
        console = Console()
        self.assertIs(console.room(), console.room())
        with self.assertRaises(TypeError):
            Console(room)

    def test_two_consoles_of_one_room(self):
        room = Room()
        one, other = Console(room=room), Console(room=room)
        one.run("word a over")
        self.assertEqual((one.run("words"), other.run("words")), ("a", "a"))
        self.assertEqual(other.run("undo"), "ok")
        self.assertEqual(one.run("words"), "none")
        self.assertEqual((len(one), len(other)), (3, 2))
        self.assertEqual(other.log(), [("words", "a"), ("undo", "ok")])

    def test_two_consoles_of_two_rooms(self):
        one, other = Console(), Console()
        one.run("word a over")
        self.assertEqual((other.run("words"), one.run("words")), ("none", "a"))


class DrawnTest(unittest.TestCase):
    def expected(self, room, line):
        """The answer by the room itself, for lines of known words and numbers without a fault in their form."""
        kind, *words = line.split(" ")
        if kind == "word":
            words = line.split(" ", 2)[1:]
        items = [int(word) if word.lstrip("-").isdigit() and kind != "word" else word for word in words]
        if kind in ("undo", "redo"):
            found = outcome(getattr(room, kind))
            return "ok" if found[0] == "returned" else "error NothingLeft"
        if kind in ("words", "piles"):
            return " ".join(getattr(room, kind)()) or "none"
        if kind == "show":
            found = outcome(lambda: str(room.get(items[0])) or "empty")
        elif kind == "form":
            found = outcome(lambda: str(form_of(room.get(items[0]))))
        elif kind == "where":
            found = outcome(lambda: self.card(room.pile(items[0]).find(items[1])))
        elif kind == "start":
            found = outcome(lambda: self.card(room.pile(items[0]).start(items[1])))
        else:
            found = outcome(room.apply, (kind, *items))
            if found[0] == "returned":
                return " ".join(f"{number}:{'yes' if holds else 'no'}" for number, holds in found[1]) or "ok"
        return found[1] if found[0] == "returned" else "error " + found[1][0]

    def card(self, found):
        return f"{found[0]} {'turned' if found[1] else 'same'}"

    def test_against_the_room(self):
        draw = random.Random(190)
        texts = ("over", "cut 1", "carry t0 b0", "", "cut 2; cut -1", "flip", "cut 61", "face t0", "over; over")
        for trial in range(30):
            console, room = Console(), Room()
            for step in range(80):
                one, other, pile, mark = [draw.choice(names) for names in ("abcA", "abcd", "ppqZ", "mmnB")]
                place = draw.randint(-1, 6)
                line = draw.choice((
                    f"word {one} {draw.choice(texts)}", f"word {one} {draw.choice(texts)}", f"drop {one}", f"pile {pile} {place}",
                    f"away {pile}", f"play {pile} {one} {place}", f"play {pile} {other} {-place}", f"mark {pile} {mark} {place}",
                    f"unmark {pile} {mark}", f"watch {one} {other}", f"unwatch {place}", "undo", "redo", "words", "piles",
                    f"show {other}", f"form {other}", f"where {pile} {mark}", f"start {pile} {place}",
                ))
                self.assertEqual(console.run(line), self.expected(room, line), line)
                self.assertTrue(console.room() == room)
                self.assertEqual(console.room().history(), room.history())


if __name__ == "__main__":
    unittest.main()
