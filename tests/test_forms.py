"""Points 8 and 9: forms of given parts, where they send end places and places, and which parts make no form."""

import itertools
import math
import random
import unittest

from pileports.errors import BadForm, BadPlace, BadSize, NoPlace, TooGreat, TooSmall, TooWide
from pileports.forms import Form
from tests.helpers import raised
from tests.models import drawn_parts, end_places, is_model_form, model_entry, model_parts

T0, T1, T2 = [("top", depth, False) for depth in range(3)]
B0, B1, B2 = [("bottom", depth, False) for depth in range(3)]
FLIPPED = ("top", 0, True)


def drawn_forms(seed, many, widest=7):
    """Pairs of drawn parts and their form."""
    draw = random.Random(seed)
    for trial in range(many):
        parts = drawn_parts(draw, draw.randint(0, widest), draw.randint(0, widest))
        yield parts, Form(*parts)


def widened(parts, above, below):
    """The same parts with so many more entries that the rules give as well."""
    turned, shift, top, bottom = parts
    top = top + [model_entry(parts, ("top", len(top) + more)) for more in range(above)]
    bottom = bottom + [model_entry(parts, ("bottom", len(bottom) + more)) for more in range(below)]
    return turned, shift, top, bottom


def model_image(parts, size, place):
    """The image of a place as point 9 says it."""
    turned, shift, top, bottom = parts
    if place < len(top):
        end, depth, flipped = top[place]
    elif size - 1 - place < len(bottom):
        end, depth, flipped = bottom[size - 1 - place]
    else:
        return (size - 1 - place + shift, True) if turned else (place + shift, False)
    return (depth if end == "top" else size - 1 - depth, flipped)


class PartsTest(unittest.TestCase):
    def test_still(self):
        form = Form.still()
        self.assertEqual(model_parts(form), (False, 0, [], []))
        self.assertEqual(form.least, 0)
        self.assertEqual(form, Form(False, 0, [], []))
        self.assertIs(type(Form.still()), Form)

    def test_class_value(self):
        self.assertEqual(Form.WIDEST, 400)
        self.assertEqual(Form.still().WIDEST, 400)

    def test_named_by_hand(self):
        form = Form(False, 1, [B0, T0], [("top", 2, True), T1])
        self.assertEqual(model_parts(form), (False, 1, [B0, T0], [("top", 2, True), T1]))
        self.assertEqual(form.least, 4)
        form = Form(True, 1, [T0, B0], [T1])
        self.assertEqual(model_parts(form), (True, 1, [T0, B0], [T1]))
        self.assertEqual(form.least, 3)

    def test_kept_normal(self):
        for parts, form in drawn_forms(40, 300):
            turned, shift, top, bottom = model_parts(form)
            self.assertEqual((turned, shift), parts[:2])
            self.assertEqual(top, parts[2][:len(top)])
            self.assertEqual(bottom, parts[3][:len(bottom)])
            for end, table, passed in (("top", top, parts[2]), ("bottom", bottom, parts[3])):
                for depth in range(len(table), len(passed)):
                    self.assertEqual(passed[depth], model_entry((turned, shift, [], []), (end, depth)))
                if table:
                    self.assertNotEqual(table[-1], model_entry((turned, shift, [], []), (end, len(table) - 1)))
            self.assertEqual(form.least, len(top) + len(bottom))

    def test_tables_that_are_not_normal(self):
        self.assertEqual(model_parts(Form(False, 0, [T0, T1, T2], [B0])), (False, 0, [], []))
        self.assertEqual(model_parts(Form(False, 0, [T1, T0, T2], [B0])), (False, 0, [T1, T0], []))
        self.assertEqual(model_parts(Form(False, 0, [FLIPPED], [])), (False, 0, [FLIPPED], []))
        self.assertEqual(model_parts(Form(False, 1, [T1], [T0])), (False, 1, [], [T0]))
        turned = [("bottom", depth, True) for depth in range(3)]
        self.assertEqual(model_parts(Form(True, 0, turned, [FLIPPED])), (True, 0, [], []))
        self.assertEqual(model_parts(Form(True, 0, turned[:2], [T0])), (True, 0, [], [T0]))
        self.assertEqual(model_parts(Form(True, 1, [T0, turned[0]], [])), (True, 1, [T0], []))

    def test_equal_forms_from_longer_tables(self):
        for parts, form in drawn_forms(41, 100):
            for above, below in ((0, 1), (1, 0), (3, 2), (393, 0), (0, 393)):
                other = Form(*widened(parts, above, below))
                self.assertEqual(other, form)
                self.assertEqual(model_parts(other), model_parts(form))
                self.assertEqual((str(other), repr(other), other.least), (str(form), repr(form), form.least))

    def test_lists_and_tuples(self):
        for turned, shift, top, bottom in [parts for parts, form in drawn_forms(42, 40)]:
            form = Form(turned, shift, top, bottom)
            self.assertEqual(Form(turned, shift, tuple(top), tuple(bottom)), form)
            self.assertEqual(Form(turned, shift, top, tuple(bottom)), form)
            self.assertEqual(Form(bottom=bottom, top=top, shift=shift, turned=turned), form)

    def test_arguments_stay_and_are_copied(self):
        top, bottom = [T1, T0, T2], [B0, B1]
        form = Form(False, 0, top, bottom)
        self.assertEqual((top, bottom), ([T1, T0, T2], [B0, B1]))
        top[0] = FLIPPED
        bottom.clear()
        self.assertEqual(model_parts(form), (False, 0, [T1, T0], []))

    def test_returned_lists_are_new(self):
        form = Form(False, 0, [T1, T0], [B1, B0])
        form.top().append(T2)
        form.bottom()[0] = FLIPPED
        form.listed(4).clear()
        self.assertEqual(model_parts(form), (False, 0, [T1, T0], [B1, B0]))
        self.assertEqual(form.listed(4), [(1, False), (0, False), (3, False), (2, False)])

    def test_kinds_of_values(self):
        for parts, form in drawn_forms(43, 20):
            self.assertIs(type(form.turned), bool)
            self.assertEqual([type(form.shift), type(form.least)], [int, int])
            for table in (form.top(), form.bottom()):
                self.assertIs(type(table), list)
                for entry in table:
                    self.assertEqual([type(entry)] + [type(item) for item in entry], [tuple, str, int, bool])


class EqualTest(unittest.TestCase):
    def test_all_four_parts(self):
        forms = [Form.still(), Form(True, 0, [], []), Form(False, 1, [], [T0]), Form(False, -1, [B0], []),
                 Form(False, 1, [], [FLIPPED]), Form(True, 1, [T0], []), Form(True, -1, [], [B0]),
                 Form(False, 0, [FLIPPED], []), Form(False, 0, [], [("bottom", 0, True)]), Form(False, 0, [B0], [T0]),
                 Form(False, 0, [T1, T0], []), Form(False, 0, [T1, FLIPPED], []), Form(False, 0, [], [B1, B0])]
        for at, one in enumerate(forms):
            for other_at, other in enumerate(forms):
                self.assertIs(one == other, at == other_at)
                self.assertIs(one != other, at != other_at)
            self.assertEqual(one, Form(*model_parts(one)))

    def test_equal_to_nothing_else(self):
        form = Form(False, 1, [], [T0])
        for other in ((False, 1, (), (T0,)), [False, 1, [], [T0]], str(form), repr(form), None, 1, False):
            self.assertIs(form == other, False)
            self.assertIs(other == form, False)
            self.assertIs(form != other, True)

    def test_repr(self):
        self.assertEqual(repr(Form.still()), "Form(still, shift 0, 0 entries)")
        self.assertEqual(repr(Form(True, 0, [], [T0])), "Form(over, shift 0, 1 entries)")
        self.assertEqual(repr(Form(False, -2, [B1, B0], [B2])), "Form(still, shift -2, 2 entries)")
        self.assertEqual(repr(Form(False, 2, [FLIPPED], [T2, T1])), "Form(still, shift 2, 3 entries)")

    def test_repr_counts_the_entries_of_both_tables(self):
        for text, expected in (
            ("still -1 t0>b1 | b0>b0", "Form(still, shift -1, 2 entries)"),
            ("over 0 t0>b0 | b0>t0", "Form(over, shift 0, 2 entries)"),
            ("still 0 t0>t1 t1>t0 | b0>b0!", "Form(still, shift 0, 3 entries)"),
            ("over 1 t0>t0 |", "Form(over, shift 1, 1 entries)"),
            ("still 2 | b0>t1 b1>t0", "Form(still, shift 2, 2 entries)"),
            ("over 0 |", "Form(over, shift 0, 0 entries)"),
            ("still 0 |", "Form(still, shift 0, 0 entries)"),
        ):
            form = Form.read(text)
            self.assertEqual(repr(form), expected)
            self.assertEqual(len(form.top()) + len(form.bottom()), int(expected.split()[-2]))


class SentTest(unittest.TestCase):
    def test_named_by_hand(self):
        form = Form(False, 1, [B0, T0], [("top", 2, True), T1])
        self.assertEqual([form(("top", depth)) for depth in range(4)],
                         [B0, T0, ("top", 3, False), ("top", 4, False)])
        self.assertEqual([form(("bottom", depth)) for depth in range(4)], [("top", 2, True), T1, B1, B2])
        self.assertEqual(form.listed(5), [(4, False), (0, False), (3, False), (1, False), (2, True)])
        self.assertEqual(form.listed(4), [(3, False), (0, False), (1, False), (2, True)])
        form = Form(True, 1, [T0, B0], [T1])
        self.assertEqual([form(("top", depth)) for depth in range(4)], [T0, B0, ("bottom", 1, True), ("bottom", 2, True)])
        self.assertEqual([form(("bottom", depth)) for depth in range(3)], [T1, ("top", 2, True), ("top", 3, True)])
        self.assertEqual(form.listed(5), [(0, False), (4, False), (3, True), (2, True), (1, False)])
        self.assertEqual(form.listed(3), [(0, False), (2, False), (1, False)])

    def test_end_places(self):
        for parts, form in drawn_forms(44, 200):
            for place in end_places(list(range(20)) + [399, 400, 10 ** 6, 10 ** 30, 10 ** 39]):
                self.assertEqual(form(place), model_entry(parts, place), (parts, place))

    def test_each_end_place_is_reached_once(self):
        for parts, form in drawn_forms(45, 100):
            goals = [form(place)[:2] for place in end_places(range(40))]
            self.assertEqual(len(set(goals)), 80)
            self.assertLessEqual(set(end_places(range(25))), set(goals))

    def test_places_from_the_least_size_on(self):
        for parts, form in drawn_forms(46, 200):
            for size in range(form.least, form.least + 12):
                expected = [model_image(model_parts(form), size, place) for place in range(size)]
                self.assertEqual(form.listed(size), expected)
                self.assertEqual([form.image(size, place) for place in range(size)], expected)
                self.assertEqual(sorted(place for place, turned in expected), list(range(size)))

    def test_places_at_the_size_of_longer_tables(self):
        for parts, form in drawn_forms(47, 100):
            for size in range(len(parts[2]) + len(parts[3]), 20):
                self.assertEqual(form.listed(size), [model_image(parts, size, place) for place in range(size)])

    def test_great_piles(self):
        draw = random.Random(48)
        for parts, form in drawn_forms(49, 200):
            size = draw.choice((10 ** 30, draw.randint(20, 10 ** 30)))
            for place in (0, 6, 7, size // 2, size - 1, size - 7, draw.randrange(size)):
                self.assertEqual(form.image(size, place), model_image(parts, size, place))

    def test_the_widest_tables(self):
        draw = random.Random(50)
        for above, below in ((400, 400), (400, 0), (0, 400)):
            parts = drawn_parts(draw, above, below)
            form = Form(*parts)
            for place in end_places(range(405)):
                self.assertEqual(form(place), model_entry(parts, place))
            self.assertEqual(form.listed(900), [model_image(parts, 900, place) for place in range(900)])
            self.assertEqual(form.image(10 ** 30, 10 ** 30 - 400), model_image(parts, 10 ** 30, 10 ** 30 - 400))

    def test_names_and_equal_calls(self):
        form = Form(False, 1, [], [FLIPPED])
        self.assertEqual(form(end_place=("bottom", 0)), FLIPPED)
        self.assertEqual(form.image(place=2, size=3), (0, True))
        self.assertEqual(form.listed(size=3), form.listed(3))


class BadFormTest(unittest.TestCase):
    def check(self, turned, shift, top, bottom):
        kept = list(top), list(bottom)
        raised(BadForm, Form, turned, shift, top, bottom)
        self.assertEqual((list(top), list(bottom)), kept)

    def test_named_by_hand(self):
        for parts in (
                (False, 0, [T0, T0], []), (False, 0, [T1], []), (False, 0, [B0], []), (False, 0, [B0], [B0]),
                (False, 0, [T0], [T0]), (False, 0, [B1, B0], []), (False, 0, [B1], [T0]), (False, 1, [], []),
                (False, -1, [], []), (True, 1, [], []), (True, -1, [], []), (False, 1, [T0], []), (False, 1, [T1], [B0]),
                (False, -1, [], [B0]), (True, 1, [B0], []), (True, -1, [T0], []), (True, 1, [], [T0]), (False, 2, [], [T0]),
                (False, 2, [], [T0, T0]), (False, -2, [B0], []), (True, 0, [T0], []), (True, 0, [], [B0])):
            self.check(*parts)

    def test_an_entry_that_is_changed(self):
        draw = random.Random(51)
        for (turned, shift, top, bottom), form in drawn_forms(52, 150):
            entries = top + bottom
            if not entries:
                continue
            at = draw.randrange(len(entries))
            end, depth, flipped = entries[at]
            other_end = "bottom" if end == "top" else "top"
            for other in (entries[at - 1] if len(entries) > 1 else ("top", -1, False), (other_end, depth, flipped),
                          (end, depth + 1, flipped), (end, depth - 1, flipped), (end, -1, flipped), (end, -depth - 1, flipped),
                          (end, depth + 15, flipped), (end, 10 ** 30, flipped), (end, -(10 ** 30), flipped)):
                changed = entries[:at] + [other] + entries[at + 1:]
                self.check(turned, shift, changed[:len(top)], changed[len(top):])
            # The face does not matter.
            changed = entries[:at] + [(end, depth, not flipped)] + entries[at + 1:]
            Form(turned, shift, changed[:len(top)], changed[len(top):])

    def test_ends_that_are_none(self):
        for parts, form in drawn_forms(53, 60):
            for end in ("", "Top", "t", "b", "top ", "middle", "bottoms", "top\n"):
                for table in (2, 3):
                    if parts[table]:
                        changed = [*map(list, parts[2:])]
                        changed[table - 2][-1] = (end,) + changed[table - 2][-1][1:]
                        self.check(parts[0], parts[1], *changed)

    def test_an_entry_lost_or_doubled(self):
        for parts, form in drawn_forms(54, 150, 5):
            for table in (2, 3):
                for at in range(len(parts[table])):
                    lost = [*parts]
                    lost[table] = parts[table][:at] + parts[table][at + 1:]
                    # An entry whose goal the rules reach without it may be lost: the others may make another form.
                    if is_model_form(lost, 20, 40):
                        self.assertEqual(model_entry(model_parts(Form(*lost)), ("top", 9)), form(("top", 9)))
                    else:
                        self.check(*lost)
                    doubled = [*parts]
                    doubled[table] = parts[table][:at + 1] + parts[table][at:]
                    self.check(*doubled)

    def test_all_small_parts(self):
        entries = [(end, depth, False) for end, depth in end_places(range(3))] + [("top", -1, False), ("", 0, False)]
        forms = 0
        for many in range(4):
            for chosen in itertools.product(entries if many < 3 else entries[:6], repeat=many):
                for above in range(many + 1):
                    for turned in (False, True):
                        for shift in range(-3, 4):
                            parts = turned, shift, list(chosen[:above]), list(chosen[above:])
                            if is_model_form(parts, 7, 12):
                                self.assertEqual(Form(*parts)(("bottom", 2)), model_entry(parts, ("bottom", 2)))
                                forms += 1
                            else:
                                self.check(*parts)
        # The entries are parted in many + 1 ways, and as many shifts fit; then each order of the goals is a form.
        self.assertEqual(forms, 2 * sum((many + 1) ** 2 * math.factorial(many) for many in range(4)))

    def test_another_shift(self):
        for (turned, shift, top, bottom), form in drawn_forms(55, 150):
            for other in (shift + 1, shift - 1, shift + 5, shift - 400, 10 ** 30, -(10 ** 30), 10 ** 39, -(10 ** 39)):
                self.check(turned, other, top, bottom)

    def test_another_turn(self):
        self.check(True, 1, [], [T0])
        self.check(False, 1, [T0], [])
        self.assertIs(Form(True, 0, [T0], [B0]).turned, True)
        self.assertIs(Form(False, 0, [T0], [B0]).turned, False)

    def test_far_shifts_of_wide_tables(self):
        wide = [("top", depth, False) for depth in range(400)]
        for shift in (1, -1, 399, 400, 401, -399, -400, -401, 10 ** 30, -(10 ** 30)):
            self.check(False, shift, wide, wide)
            self.check(True, shift, wide, wide)
            self.check(False, shift, wide, [])


class TooWideTest(unittest.TestCase):
    def test_more_than_400_entries(self):
        wide = [("top", depth, False) for depth in range(401)]
        low = [("bottom", depth, False) for depth in range(401)]
        for top, bottom in ((wide, []), ([], low), (wide, low), (wide + wide, []), (tuple(wide), low[:400])):
            self.assertEqual(raised(TooWide, Form, False, 0, top, bottom).limit, 400)
        self.assertEqual(Form(False, 0, wide[:400], low[:400]), Form.still())

    def test_ahead_of_bad_form(self):
        for entry in (T0, ("middle", -1, False), ("top", 10 ** 30, True)):
            for shift in (0, 1, 10 ** 30):
                self.assertEqual(raised(TooWide, Form, False, shift, [entry] * 401, []).limit, 400)
                self.assertEqual(raised(TooWide, Form, True, shift, [], [entry] * 401).limit, 400)
                raised(BadForm, Form, False, shift, [entry] * 400, [])


class ErrorsTest(unittest.TestCase):
    FORMS = [Form.still(), Form(True, 0, [], []), Form(False, 2, [FLIPPED], [T2, T1]), Form(True, 1, [T0], [])]

    def test_bad_place(self):
        for form in self.FORMS:
            for place in (("top", -1), ("bottom", -1), ("bottom", -(10 ** 30)), ("", 0), ("Top", 0), ("t", 0), ("middle", -3)):
                self.assertEqual(raised(BadPlace, form, place).place, place)

    def test_bad_size(self):
        for form in self.FORMS:
            for size in (-1, -(10 ** 30), 10 ** 30 + 1, 10 ** 39):
                for place in (0, -1, size):
                    self.assertEqual(raised(BadSize, form.image, size, place).size, size)
                self.assertEqual(raised(BadSize, form.listed, size).size, size)

    def test_too_small(self):
        for form in self.FORMS + [form for parts, form in drawn_forms(56, 30)]:
            for size in range(form.least):
                for place in (-1, 0, size, 10 ** 30):
                    self.assertEqual(raised(TooSmall, form.image, size, place).limit, form.least)
                self.assertEqual(raised(TooSmall, form.listed, size).limit, form.least)
            self.assertEqual(len(form.listed(form.least)), form.least)

    def test_no_place(self):
        for form in self.FORMS:
            for size in (form.least, 5, 10 ** 30):
                for place in (-1, size, size + 1, 10 ** 39):
                    self.assertEqual(raised(NoPlace, form.image, size, place).place, place)

    def test_too_great(self):
        for form in self.FORMS:
            for size in (1001, 1002, 10 ** 30):
                self.assertEqual(raised(TooGreat, form.listed, size).limit, 1000)
            self.assertEqual(len(form.listed(1000)), 1000)


if __name__ == "__main__":
    unittest.main()
