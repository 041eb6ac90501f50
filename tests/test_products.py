"""Point 10: the forms of moves and of lists of moves, products, inverses, and the moves that spell a form."""

import itertools
import random
import unittest

from pileports.errors import BadMove, TooWide
from pileports.forms import Form
from pileports.moves import is_move
from pileports.words import Word
from tests.helpers import raised
from tests.models import (
    drawn_move, drawn_moves, drawn_parts, end_places, model_entry, model_parts, model_reach, moved_one_by_one, moves_within,
)


def drawn_form(draw, widest=7):
    return Form(*drawn_parts(draw, draw.randint(0, widest), draw.randint(0, widest)))


def model_product(one, other, place):
    """The entry of an end place that is sent by one form and then by the other."""
    end, depth, turned = model_entry(model_parts(one), place)
    end, depth, again = model_entry(model_parts(other), (end, depth))
    return end, depth, turned != again


class OfTest(unittest.TestCase):
    def check(self, moves, sizes):
        form = Form.of(moves)
        for size in sizes:
            if size >= form.least:
                self.assertEqual(form.listed(size), moved_one_by_one(moves, size), (moves, size))
        return form

    def test_named_by_hand(self):
        self.assertEqual(str(Form.of([("carry", ("top", 0), ("bottom", 1))])), "still -1 t0>b1 | b0>b0")
        self.assertEqual(str(Form.of([("carry", ("bottom", 1), ("top", 0))])), "still 1 | b0>b0 b1>t0")
        self.assertEqual(str(Form.of([("swap", ("top", 0), ("bottom", 1))])), "still 0 t0>b1 | b0>b0 b1>t0")
        self.assertEqual(str(Form.of([("cut", 2)])), "still -2 t0>b1 t1>b0 |")
        self.assertEqual(str(Form.of([("cut", -2)])), "still 2 | b0>t1 b1>t0")
        self.assertEqual(str(Form.of([("turn", "top", 3)])), "still 0 t0>t2! t1>t1! t2>t0! |")
        self.assertEqual(str(Form.of([("turn", "bottom", 1)])), "still 0 | b0>b0!")
        self.assertEqual(str(Form.of([("face", ("bottom", 1))])), "still 0 | b0>b0 b1>b1!")
        self.assertEqual(str(Form.of([("over",)])), "over 0 |")
        self.assertEqual(str(Form.of([("cut", 1), ("over",)])), "over 1 t0>t0! |")
        self.assertEqual(str(Form.of([("over",), ("cut", 1)])), "over -1 | b0>b0!")

    def test_no_moves(self):
        for moves in ([], (), [("cut", 0)], [("over",), ("over",)], [("cut", 1), ("cut", -1)], [("turn", "top", 0)],
                      [("swap", ("top", 1), ("bottom", 2))] * 2, [("carry", ("top", 5), ("top", 5))],
                      [("turn", "bottom", 400), ("turn", "bottom", 400)]):
            self.assertEqual(Form.of(moves), Form.still())
            self.assertEqual(model_parts(Form.of(moves)), (False, 0, [], []))

    def test_each_kind_of_move(self):
        for move in moves_within(4):
            twice = 2 * model_reach(move)
            form = self.check([move], range(twice, twice + 9))
            self.assertLessEqual(form.least, twice)

    def test_deep_moves(self):
        draw = random.Random(60)
        for trial in range(30):
            move = drawn_move(draw, 400)
            twice = 2 * model_reach(move)
            form = self.check([move], [size for size in (twice, twice + 1, twice + 50) if size <= 1000])
            self.assertLessEqual(form.least, twice)
        for move in (("turn", "top", 400), ("cut", -400), ("carry", ("top", 399), ("bottom", 399)), ("face", ("bottom", 399))):
            self.check([move], (800, 801, 1000))

    def test_pairs_of_moves(self):
        moves = moves_within(2)
        for one, other in itertools.product(moves, moves):
            twice = 2 * (model_reach(one) + model_reach(other))
            self.check([one, other], range(twice, twice + 4))

    def test_drawn_lists(self):
        draw = random.Random(61)
        for trial in range(100):
            moves = drawn_moves(draw, *draw.choice(((6, 30, 8), (40, 60, 2), (3, 60, 60), (60, 100, 3))))
            twice = 2 * sum(map(model_reach, moves))
            form = self.check(moves, (twice, twice + 1, twice + 2, twice + 13))
            self.assertLessEqual(form.least, twice)

    def test_product_of_the_forms_of_the_moves(self):
        draw = random.Random(62)
        for trial in range(60):
            moves = drawn_moves(draw, 12, 100, 6)
            form = Form.still()
            for move in moves:
                form = form * Form.of([move])
            self.assertEqual(Form.of(moves), form)
            at = draw.randint(0, len(moves))
            self.assertEqual(Form.of(moves[:at]) * Form.of(moves[at:]), form)

    def test_many_moves(self):
        draw = random.Random(63)
        moves = [draw.choice([("over",), ("face", ("top", 1)), ("swap", ("top", 0), ("bottom", 3)), ("turn", "top", 4)])
                 for trial in range(2000)]
        form = Form.of(moves)
        self.assertEqual(form.listed(40), moved_one_by_one(moves, 40))

    def test_arguments(self):
        moves = [("cut", 1), ("over",)]
        self.assertEqual(Form.of(tuple(moves)), Form.of(moves))
        self.assertEqual(Form.of(moves=moves), Form.of(moves))
        self.assertEqual(Form.still().of(moves), Form.of(moves))
        self.assertEqual(moves, [("cut", 1), ("over",)])
        self.assertIs(type(Form.of(moves)), Form)

    def test_bad_move(self):
        good = ("cut", 3)
        for bad in ((), ("flip",), ("over", 0), ("cut", 401), ("face", ("top", 400)), ("turn", "bottom", -1), ("swap",)):
            self.assertEqual(raised(BadMove, Form.of, [bad]).at, 0)
            self.assertEqual(raised(BadMove, Form.of, [good, bad, good, bad]).at, 1)
            self.assertEqual(raised(BadMove, Form.of, [good] * 1999 + [bad]).at, 1999)

    def test_too_wide(self):
        wide = [("cut", 400), ("cut", 1)]
        for moves in (wide, wide + [("cut", -1)], wide + [("cut", -1), ("cut", -400)], [("cut", -1)] * 401,
                      [("cut", 200), ("over",), ("cut", -201), ("over",)],
                      [("cut", 1)] * 401 + [("cut", -1)] * 401):
            self.assertEqual(raised(TooWide, Form.of, moves).limit, 400)
        self.assertEqual(Form.of([("cut", 1)] * 400), Form.of([("cut", 400)]))
        self.assertEqual(Form.of([("cut", 1)] * 400 + [("cut", -1)] * 800 + [("cut", 1)] * 400), Form.still())

    def test_bad_move_ahead_of_too_wide(self):
        self.assertEqual(raised(BadMove, Form.of, [("cut", 400), ("cut", 400), ("flip",)]).at, 2)


class ProductTest(unittest.TestCase):
    def test_each_end_place(self):
        draw = random.Random(64)
        for trial in range(400):
            one, other = drawn_form(draw), drawn_form(draw)
            form = one * other
            self.assertIs(type(form), Form)
            for place in end_places(range(40)):
                self.assertEqual(form(place), model_product(one, other, place), (str(one), str(other), place))

    def test_plays_of_products(self):
        draw = random.Random(65)
        for trial in range(60):
            one, other = drawn_form(draw, 4), drawn_form(draw, 4)
            first, second, both = one.listed(60), other.listed(60), (one * other).listed(60)
            for place, (goal, turned) in enumerate(first):
                last, again = second[goal]
                self.assertEqual(both[place], (last, turned != again))

    def test_three_forms(self):
        draw = random.Random(66)
        for trial in range(200):
            one, other, third = drawn_form(draw), drawn_form(draw), drawn_form(draw)
            self.assertEqual((one * other) * third, one * (other * third))

    def test_still(self):
        draw = random.Random(67)
        for trial in range(50):
            form = drawn_form(draw)
            self.assertEqual(form * Form.still(), form)
            self.assertEqual(Form.still() * form, form)

    def test_the_order_matters(self):
        one, other = Form.of([("cut", 1)]), Form.of([("over",)])
        self.assertEqual(one * other, Form.of([("cut", 1), ("over",)]))
        self.assertNotEqual(one * other, other * one)

    def test_products_are_normal(self):
        draw = random.Random(68)
        for trial in range(300):
            form = drawn_form(draw, 3) * drawn_form(draw, 3)
            self.assertEqual(form, Form(*model_parts(form)))
            self.assertEqual(Form.read(str(form)), form)

    def test_factors_stay(self):
        draw = random.Random(69)
        one, other = drawn_form(draw), drawn_form(draw)
        kept = model_parts(one), model_parts(other)
        self.assertEqual(one * other, one * other)
        self.assertEqual((model_parts(one), model_parts(other)), kept)

    def test_too_wide(self):
        for one, other in ((400, 1), (1, 400), (-400, -1), (-200, -201)):
            with self.assertRaises(TooWide) as caught:
                Form.of([("cut", one)]) * Form.of([("cut", other)])
            self.assertEqual(caught.exception.limit, 400)
        self.assertEqual(Form.of([("cut", 200)]) * Form.of([("cut", 200)]), Form.of([("cut", 400)]))
        self.assertEqual(Form.of([("cut", 400)]) * Form.of([("cut", -400)]), Form.still())

    def test_wide_tables_that_the_product_does_not_need(self):
        draw = random.Random(70)
        form = Form(*drawn_parts(draw, 300, 100))
        self.assertEqual(form * form.inverse(), Form.still())
        deep = Form.of([("turn", "top", 400), ("turn", "bottom", 400)])
        self.assertEqual(deep * deep, Form.still())
        self.assertEqual(deep * Form.of([("face", ("bottom", 399))]) * deep, Form.of([("face", ("bottom", 0))]))


class InverseTest(unittest.TestCase):
    def test_named_by_hand(self):
        self.assertEqual(Form.of([("cut", 2)]).inverse(), Form.of([("cut", -2)]))
        self.assertEqual(Form.still().inverse(), Form.still())
        form = Form(True, 1, [("top", 0, False)], [])
        self.assertEqual(form.inverse(), form)

    def test_both_orders(self):
        draw = random.Random(71)
        for trial in range(300):
            form = drawn_form(draw)
            back = form.inverse()
            self.assertIs(type(back), Form)
            self.assertEqual(form * back, Form.still())
            self.assertEqual(back * form, Form.still())
            self.assertEqual(back.inverse(), form)
            self.assertEqual(back, Form(*model_parts(back)))

    def test_each_end_place_is_sent_back(self):
        draw = random.Random(72)
        for trial in range(100):
            form = drawn_form(draw)
            for place in end_places(range(30)):
                end, depth, turned = form(place)
                self.assertEqual(form.inverse()((end, depth)), (*place, turned))

    def test_of_undone_words(self):
        draw = random.Random(73)
        for trial in range(60):
            word = Word(*drawn_moves(draw, 10, 60, 6))
            self.assertEqual(Form.of(word.undone().moves()), Form.of(word.moves()).inverse())

    def test_inverse_of_a_product(self):
        draw = random.Random(74)
        for trial in range(60):
            one, other = drawn_form(draw), drawn_form(draw)
            self.assertEqual((one * other).inverse(), other.inverse() * one.inverse())

    def test_too_wide(self):
        # The tables of the inverse have A + shift and B - shift entries; here one of them has 401.
        low = [("top", depth, False) for depth in range(401)]
        form = Form(False, 200, low[200:0:-1] + low[:1], low[400:200:-1])
        self.assertEqual((len(form.top()), len(form.bottom())), (201, 200))
        self.assertEqual(raised(TooWide, form.inverse).limit, 400)
        form = Form(False, 200, low[399:199:-1], low[199::-1])
        self.assertEqual((len(form.top()), len(form.bottom())), (200, 200))
        self.assertEqual((len(form.inverse().top()), len(form.inverse().bottom())), (400, 0))
        self.assertEqual(form * form.inverse(), Form.still())
        widest = Form(True, 400, low[:400], [])
        self.assertEqual(widest.inverse() * widest, Form.still())


class SpelledTest(unittest.TestCase):
    def check(self, form):
        moves = form.spelled()
        self.assertIs(type(moves), list)
        self.assertLessEqual(len(moves), 2000)
        for move in moves:
            self.assertTrue(is_move(move), move)
        self.assertEqual(Form.of(moves), form)

    def test_named_by_hand(self):
        self.check(Form.still())
        self.assertEqual(Form.of(Form.still().spelled()), Form.still())
        for move in moves_within(3):
            self.check(Form.of([move]))

    def test_small_forms(self):
        draw = random.Random(75)
        for trial in range(400):
            self.check(drawn_form(draw))

    def test_all_widths_and_shifts(self):
        draw = random.Random(76)
        for above, below in ((200, 200), (200, 0), (0, 200), (199, 200), (1, 200), (137, 88)):
            for trial in range(3):
                self.check(Form(*drawn_parts(draw, above, below)))

    def test_the_longest_spellings(self):
        low = [("top", depth, True) for depth in range(400)]
        high = [("bottom", depth, True) for depth in range(400)]
        for turned, shift, goals in ((False, 200, low), (False, -200, high), (True, 200, low), (True, -200, high),
                                     (True, 0, low[:200] + high[:200]), (False, 0, low[:200] + high[:200])):
            for entries in (goals[1:] + goals[:1], goals[::-1], goals):
                self.check(Form(turned, shift, entries[:200], entries[200:]))

    def test_spelled_moves_on_cards(self):
        draw = random.Random(77)
        for trial in range(40):
            form = drawn_form(draw)
            self.assertEqual(moved_one_by_one(form.spelled(), 60), form.listed(60))

    def test_returned_lists_are_new(self):
        form = Form.of([("cut", 3), ("over",)])
        form.spelled().clear()
        self.check(form)
        self.assertEqual(form.spelled(), form.spelled())

    def test_too_wide(self):
        for move in (("turn", "top", 201), ("turn", "bottom", 201), ("cut", 201), ("cut", -400), ("face", ("top", 200)),
                     ("carry", ("top", 3), ("bottom", 201)), ("swap", ("top", 399), ("bottom", 399))):
            self.assertEqual(raised(TooWide, Form.of([move]).spelled).limit, 200)
        for move in (("turn", "top", 200), ("turn", "bottom", 200), ("cut", 200), ("cut", -200), ("face", ("top", 199))):
            self.check(Form.of([move]))


if __name__ == "__main__":
    unittest.main()
