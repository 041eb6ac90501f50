"""Point 2 over the whole program: arguments by name, errors, equal calls, independent objects, tuples for lists."""

import copy
import unittest

from pileports import errors
from pileports.alike import alike_sizes, first_difference
from pileports.console import Console
from pileports.errors import BadMove
from pileports.forms import Form
from pileports.moves import image, is_move, move_text, parse_move, reach, undoing
from pileports.numbers import common_rounds, greatest_divisor, least_multiple
from pileports.pages import read_page, write_page
from pileports.piles import MarkedPile, Pile
from pileports.places import parse_place, place_text, resolve
from pileports.rooms import Room
from pileports.rounds import after, through
from pileports.steady import form_of, steady_from
from pileports.ways import census, is_even, order, walk, way, way_length
from pileports.wires import families, steady_order
from pileports.wishes import meeting, wish
from pileports.words import Word
from tests.helpers import raised
from tests.room_models import seen_pile, seen_room
from tests.test_deeds import full_room, small_room

CUT, OVER = Word.read("cut 1"), Word.read("over; face t0")
SHIFTED = ("still -1 t0>b1 | b0>b0")


def walked(*arguments, **named):
    return list(walk(*arguments, **named))


def marked_pile():
    pile = MarkedPile(5)
    pile.play(OVER, rounds=3)
    pile.mark("m", 1)
    pile.play(CUT)
    pile.undo()
    return pile


def used_console():
    console = Console(room=small_room())
    console.run("word c over")
    return console


# Each function with its arguments by name, in the order of the interface.
FUNCTIONS = (
    (greatest_divisor, {"one": 12, "other": -18}),
    (common_rounds, {"remainders": [(1, 4), (3, 6)]}),
    (resolve, {"end_place": ("bottom", 2), "size": 10}),
    (place_text, {"end_place": ("bottom", 2)}),
    (parse_place, {"text": "b2"}),
    (is_move, {"move": ("cut", 2)}),
    (reach, {"move": ("cut", 2)}),
    (move_text, {"move": ("cut", 2)}),
    (undoing, {"move": ("cut", 2)}),
    (parse_move, {"text": "swap t0 b1"}),
    (image, {"move": ("cut", 2), "size": 7, "place": 1}),
    (Word.read, {"text": "cut 1; over"}),
    (Form, {"turned": True, "shift": 1, "top": [("top", 0, True)], "bottom": []}),
    (Form.of, {"moves": [("cut", 1), ("over",)]}),
    (Form.read, {"text": SHIFTED}),
    (form_of, {"word": OVER}),
    (steady_from, {"word": OVER}),
    (alike_sizes, {"one": CUT, "other": OVER}),
    (first_difference, {"one": CUT, "other": OVER, "size": 7}),
    (way, {"word": CUT, "size": 7, "place": 3}),
    (way_length, {"word": CUT, "size": 7, "place": 3}),
    (walked, {"word": CUT, "size": 7, "place": 3}),
    (census, {"word": OVER, "size": 7}),
    (order, {"word": OVER, "size": 7}),
    (is_even, {"word": CUT, "size": 6}),
    (families, {"word": CUT}),
    (steady_order, {"word": OVER}),
    (after, {"word": CUT, "size": 9, "place": 2, "rounds": 4}),
    (through, {"plays": [(CUT, 2), (OVER, -1)], "size": 9, "place": 2}),
    (meeting, {"word": CUT, "size": 9, "place": 2, "goal": 5}),
    (wish, {"word": CUT, "size": 9, "wants": [(0, 1, None), (2, 3, False)]}),
    (Pile, {"size": 5}),
    (MarkedPile, {"size": 5}),
    (write_page, {"room": small_room()}),
    (read_page, {"text": write_page(small_room())}),
)

# What makes an object, and the methods of its class with their arguments by name.
METHODS = (
    (lambda: OVER, "image", {"size": 7, "place": 1}),
    (lambda: OVER, "play", {"size": 4}),
    (lambda: Form.read(SHIFTED), "__call__", {"end_place": ("top", 3)}),
    (lambda: Form.read(SHIFTED), "image", {"size": 7, "place": 1}),
    (lambda: Form.read(SHIFTED), "listed", {"size": 7}),
    (marked_pile, "play", {"word": CUT}),
    (marked_pile, "now", {"place": 2}),
    (marked_pile, "start", {"place": 2}),
    (marked_pile, "mark", {"name": "n", "place": 3}),
    (marked_pile, "unmark", {"name": "m"}),
    (marked_pile, "find", {"name": "m"}),
    (small_room, "apply", {"deed": ("word", "c", "over")}),
    (small_room, "apply_all", {"deeds": [("word", "c", "over"), ("watch", "c", "c")]}),
    (small_room, "trial", {"deeds": [("word", "c", "over"), ("watch", "c", "c")]}),
    (small_room, "set_capacity", {"value": 3}),
    (small_room, "get", {"name": "a"}),
    (small_room, "pile", {"name": "p"}),
    (used_console, "run", {"line": "words"}),
)

KEYWORD_ONLY = (
    (lambda: walked(CUT, 7, 3, many=2), [(3, False), (2, False)]),
    (lambda: meeting(CUT, 9, 2, 5, turned=True), None),
    (lambda: marked_pile().play(CUT, rounds=2), None),
    (lambda: len(Console(room=small_room()).room()), 2),
)


def state(value):
    """What can be seen of an object that changes, and of all other values themselves."""
    if isinstance(value, Console):
        return value.log(), seen_room(value.room())
    if isinstance(value, Room):
        return seen_room(value)
    if isinstance(value, MarkedPile):
        return seen_pile(value), value.history()
    return value


class ArgumentsTest(unittest.TestCase):
    def test_functions(self):
        for call, named in FUNCTIONS:
            kept = copy.deepcopy(named)
            expected = call(*named.values())
            self.assertEqual(call(**named), expected, call)
            self.assertEqual(call(**dict(reversed(named.items()))), expected, call)
            self.assertEqual(named, kept, call)

    def test_methods(self):
        for make, name, named in METHODS:
            kept = copy.deepcopy(named)
            one, other, last = make(), make(), make()
            expected = getattr(one, name)(*named.values())
            self.assertEqual(getattr(other, name)(**named), expected, name)
            self.assertEqual(getattr(last, name)(**dict(reversed(named.items()))), expected, name)
            self.assertEqual(state(other), state(one), name)
            self.assertEqual(state(last), state(one), name)
            self.assertEqual(named, kept, name)

    def test_keyword_only(self):
        for call, expected in KEYWORD_ONLY:
            self.assertEqual(call(), expected)
        for call, arguments in ((walk, (CUT, 7, 3, 2)), (meeting, (CUT, 9, 2, 5, True)), (Pile(3).play, (CUT, 2)),
                                (Console, (Room(),))):
            self.assertRaises(TypeError, call, *arguments)

    def test_tuples_for_lists(self):
        wants = [(0, 1, None), (2, 3, False)]
        deeds = [("word", "c", "over"), ("watch", "c", "c")]
        plays = [(CUT, 2), (OVER, -1)]
        top, bottom = [("top", 0, True)], []
        for call, given in ((common_rounds, [(1, 4), (3, 6)]), (Form.of, [("cut", 1), ("over",)]),
                            (lambda wants: wish(CUT, 9, wants), wants), (lambda plays: through(plays, 9, 2), plays),
                            (lambda deeds: small_room().apply_all(deeds), deeds), (lambda deeds: small_room().trial(deeds), deeds),
                            (lambda table: Form(True, 1, table, bottom), top), (lambda table: Form(True, 1, top, table), bottom)):
            kept = list(given)
            self.assertEqual(call(tuple(given)), call(given))
            self.assertEqual(given, kept)

    def test_what_is_passed_and_changed_later(self):
        top = [("top", 0, True)]
        form = Form(True, 1, top, [])
        text = str(form)
        top.clear()
        self.assertEqual(str(form), text)
        room, deeds = Room(), [("word", "a", "over")]
        room.apply_all(deeds)
        page = write_page(room)
        deeds[0] = ("word", "a", "cut 1")
        room.undo()
        room.redo()
        self.assertEqual(write_page(room), page)

    def test_equal_calls_on_equal_states(self):
        for call, named in FUNCTIONS:
            self.assertEqual(call(**named), call(**named), call)
        for make, name, named in METHODS:
            if name not in ("play", "mark", "unmark", "apply", "apply_all", "set_capacity", "run"):
                made = make()
                before = state(made)
                self.assertEqual(getattr(made, name)(**named), getattr(made, name)(**named), name)
                self.assertEqual(state(made), before)


ERRORS = (
    (lambda: resolve(("left", 0), 3), "BadPlace", {"place": ("left", 0)}),
    (lambda: place_text(("top", -1)), "BadPlace", {"place": ("top", -1)}),
    (lambda: reach(("cut", 401)), "BadMove", {"at": 0}),
    (lambda: Word(("over",), ("cut", True)), "BadMove", {"at": 1}),
    (lambda: Word.read("over; flip"), "BadText", {"at": 1}),
    (lambda: Word.read("cut 61"), "TooLong", {"limit": 60}),
    (lambda: Word(*[("over",)] * 41), "TooLong", {"limit": 40}),
    (lambda: Form(False, 1, [], []), "BadForm", {}),
    (lambda: Form(False, 0, [("top", 0, True)] * 401, []), "TooWide", {"limit": 400}),
    (lambda: census(CUT, -1), "BadSize", {"size": -1}),
    (lambda: walked(CUT, 3, 0, many=1001), "TooGreat", {"limit": 1000}),
    (lambda: CUT.play(1001), "TooGreat", {"limit": 1000}),
    (lambda: Form.read(SHIFTED).listed(1), "TooSmall", {"limit": 2}),
    (lambda: after(CUT, 3, 3, 1), "NoPlace", {"place": 3}),
    (lambda: resolve(("top", 3), 3), "NoPlace", {"place": ("top", 3)}),
    (lambda: after(CUT, 3, 2, 10 ** 30 + 1), "BadRounds", {"rounds": 10 ** 30 + 1}),
    (lambda: families(OVER), "NoShift", {}),
    (lambda: steady_order(CUT), "Shifted", {}),
    (lambda: common_rounds([(0, 1), (2, 2)]), "BadRemainder", {"at": 1}),
    (lambda: marked_pile().mark("A", 0), "BadName", {"name": "A"}),
    (lambda: marked_pile().mark("m", 0), "Taken", {"name": "m"}),
    (lambda: small_room().apply(("pile", "p", 3)), "Taken", {"name": "p"}),
    (lambda: full_room().apply(("watch", "a", "a")), "Full", {"limit": 6}),
    (lambda: small_room().apply(("drop", "a")), "InUse", {"number": 1}),
    (lambda: small_room().set_capacity(13), "BadCapacity", {"value": 13}),
    (lambda: small_room().apply_all([("drop", "b"), ("drop",)]), "BadDeed", {"at": 1}),
    (lambda: read_page("word a over\n"), "BadPage", {"row": 1}),
    (lambda: small_room().get("z"), "NoWord", {"name": "z"}),
    (lambda: small_room().pile("z"), "NoPile", {"name": "z"}),
    (lambda: marked_pile().find("z"), "NoMark", {"name": "z"}),
    (lambda: small_room().apply(("unwatch", 5)), "NoWatch", {"number": 5}),
    (lambda: Room().undo(), "NothingLeft", {}),
    (lambda: marked_pile().twin().undo() or Pile(3).redo(), "NothingLeft", {}),
)


class ErrorsTest(unittest.TestCase):
    def test_each_error(self):
        seen = set()
        for call, code, attributes in ERRORS:
            error = raised(getattr(errors, code), call)
            self.assertEqual(vars(error), {"code": code, **attributes})
            missing = code in ("NoWord", "NoPile", "NoMark", "NoWatch", "NothingLeft")
            self.assertIsInstance(error, errors.Missing if missing else errors.PileError)
            self.assertIsInstance(error, LookupError if missing else ValueError)
            self.assertNotIsInstance(error, errors.PileError if missing else errors.Missing)
            seen.add(code)
        every = {name for name in vars(errors) if isinstance(vars(errors)[name], type)} - {"PileError", "Missing"}
        self.assertEqual(seen, every)

    def test_refused_calls_change_nothing(self):
        for make, calls in (
            (marked_pile, (lambda pile: pile.play(CUT, rounds=10 ** 31), lambda pile: pile.mark("A", 0), lambda pile: pile.mark("m", 0),
                           lambda pile: pile.mark("n", 5), lambda pile: pile.unmark("z"), lambda pile: pile.find("z"),
                           lambda pile: pile.now(5), lambda pile: pile.start(-1))),
            (full_room, (lambda room: room.apply(("word", "z", "over")), lambda room: room.apply_all([("drop", "l"), ("drop", "l")]),
                         lambda room: room.trial([("drop", "l"), None]), lambda room: room.set_capacity(0), lambda room: room.get("z"),
                         lambda room: room.pile("z"), lambda room: room.redo())),
        ):
            made = make()
            before, twin = state(made), made.twin()
            for call in calls:
                self.assertRaises((errors.PileError, errors.Missing), call, made)
                self.assertEqual(state(made), before)
                self.assertTrue(made == twin)


class TruthValuesTest(unittest.TestCase):
    def test_true_and_false_are_not_numbers(self):
        for value in (True, False):
            for move in (("cut", value), ("turn", "top", value), ("face", ("top", value)), ("swap", ("top", 0), ("bottom", value)),
                         ("carry", ("top", value), ("bottom", 0))):
                self.assertFalse(is_move(move))
                self.assertEqual(raised(BadMove, Word, ("over",), move).at, 1)
                self.assertEqual(raised(BadMove, Form.of, [("over",), ("over",), move]).at, 2)
                self.assertEqual(raised(BadMove, image, move, 3, 0).at, 0)


class IndependenceTest(unittest.TestCase):
    def test_rooms_in_turns(self):
        one, other = Room(), Room()
        one.apply(("word", "a", "cut 1"))
        other.apply(("word", "a", "over"))
        one.apply(("pile", "p", 4))
        other.apply(("pile", "p", 5))
        one.capacity = 1
        other.apply_all([("play", "p", "a", 1), ("mark", "p", "m", 0)])
        one.apply(("play", "p", "a", 2))
        self.assertEqual(write_page(one), "word a cut 1\npile p 4\nplay 2 cut 1\nnext 1\n")
        self.assertEqual(write_page(other), "word a over\npile p 5\nplay 1 over\nmark m 4\nnext 1\n")
        self.assertEqual((one.capacity, other.capacity, one.history(), other.history()), (1, 12, (3, 0), (3, 0)))

    def test_piles_in_turns(self):
        for made in (Pile, MarkedPile):
            one, other = made(4), made(4)
            one.play(CUT)
            other.play(OVER)
            one.play(CUT)
            other.undo()
            self.assertEqual((one.plays(), other.plays()), ([("cut 1", 1)] * 2, []))
            self.assertEqual((one.history(), other.history()), ((2, 0), (0, 1)))

    def test_consoles_in_turns(self):
        one, other = Console(), Console()
        one.run("word a over")
        other.run("word b ")
        self.assertEqual((one.run("words"), other.run("words")), ("a", "b"))
        self.assertEqual((one.log(), other.log()), ([("word a over", "ok"), ("words", "a")], [("word b ", "ok"), ("words", "b")]))

    def test_generators_in_turns(self):
        one, other = walk(CUT, 10 ** 30, 0, many=4), walk(OVER, 5, 0, many=4)
        found = [[], []]
        for step in range(4):
            found[0].append(next(one))
            found[1].append(next(other))
        self.assertEqual(found, [walked(CUT, 10 ** 30, 0, many=4), walked(OVER, 5, 0, many=4)])

    def test_generators_of_a_word_that_is_replaced(self):
        room = small_room()
        steps = walk(room.get("a"), 5, 0, many=3)
        self.assertEqual(next(steps), (0, False))
        room.apply(("word", "a", "over"))
        self.assertEqual(list(steps), [(4, False), (3, False)])

    def test_least_multiple_of_many(self):
        numbers = [4, 6, 10]
        self.assertEqual((least_multiple(*numbers), numbers), (60, [4, 6, 10]))


if __name__ == "__main__":
    unittest.main()
