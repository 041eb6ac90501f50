"""Point 12: the texts of forms."""

import random
import unittest

from pileports.errors import BadText
from pileports.forms import Form
from tests.helpers import raised
from tests.models import drawn_parts, model_parts

TEXTS = {
    "still 0 |": (False, 0, [], []),
    "over 0 |": (True, 0, [], []),
    "still 0 t0>t0! |": (False, 0, [("top", 0, True)], []),
    "still 0 | b0>b0!": (False, 0, [], [("bottom", 0, True)]),
    "still -1 t0>b1 | b0>b0": (False, -1, [("bottom", 1, False)], [("bottom", 0, False)]),
    "over 1 t0>t0 |": (True, 1, [("top", 0, False)], []),
    "over -1 | b0>b0!": (True, -1, [], [("bottom", 0, True)]),
    "still 1 t0>b0 t1>t0 | b0>t2! b1>t1": (
        False, 1, [("bottom", 0, False), ("top", 0, False)], [("top", 2, True), ("top", 1, False)]),
}

NO_TEXTS = [
    "", " ", "\n", "|", "still", "still 0", "over", "still |", "still| 0", "0 |", "still 0|", "still0 |", "Still 0 |",
    "turned 0 |", "still! 0 |", "True 0 |", "overs 0 |", "still 0 | |", "still 0 ||", "still |0", "still | 0", "| still 0",
    # Spaces and line feeds.
    " still 0 |", "still 0 | ", "still  0 |", "still 0  |", "still 0 |\n", "still\n0 |", "still\n 0 |", "still 0\n |",
    "still 0 t0>t0!  |", "still 0 |  b0>b0!", "still 0 | b0>b0! ", "still 0 | b0> b0!", "still 0 | b0 >b0!", "still 0 | b0>b0 !",
    # Without its bar, or with the bar elsewhere.
    "still 0 t0>t0!", "still 0 b0>b0!", "still 0 / b0>b0!", "still 0 b0>b0! |", "still 0 | t0>t0!", "still 0 | t0>t0! |",
    # Numbers.
    "still 00 |", "still -0 |", "still +0 |", "still x |", "still 0.0 |", "still t0 |", "still 0_0 |", "still 01 | b0>t0",
    "still +1 | b0>t0", "still -01 t0>b0 |", "still --1 t0>b0 |", "still - 1 t0>b0 |", "still 1 | b00>t0", "still 1 | b0>t00",
    "still 1 | b>t0", "still 1 | b0>t", "still 1 | b+0>t0", "still 1 | b0>t-0", "still " + "1" * 31 + " | b0>t0",
    "still " + "1" * 32 + " | b0>t0", "still " + "0" * 32 + " |", "still -" + "9" * 32 + " t0>b0 |", "still " + "9" * 9000 + " |",
    "still 1 | b0>t" + "1" * 31, "still 1 | b0>t" + "1" * 32, "still 1 | b" + "0" * 32 + ">t0", "still 1 | b0>t" + "0" * 9000,
    # Entries.
    "still 1 | b0>T0", "still 1 | B0>t0", "still 1 | b0>0", "still 1 | 0>t0", "still 1 | b0t0", "still 1 | b0>>t0",
    "still 1 | b0<t0", "still 1 | b0>t0>t0", "still 1 | b0>t0!!", "still 1 | b0>!t0", "still 1 | !b0>t0", "still 1 | b0!>t0",
    "still 1 | b0>t0 !", "still 1 | b0>t0,", "still 1 | >t0", "still 1 | b0>", "still 1 | >", "still 1 | !", "still 1 | b0>top0",
    # Entries at other depths, or in the other table.
    "still 1 | b1>t0", "still 1 | t0>t0", "still 1 | b0>t0 b0>t0", "still 1 b0>t0 |", "still 0 t1>t0 t0>t1 |", "still 0 t0>t1 t2>t0 |",
    # Tables that are not normal.
    "still 0 t0>t0 |", "still 0 | b0>b0", "still 0 t0>t0! t1>t1 |", "over 0 t0>b0! |", "over 0 | b0>t0!", "still 1 t0>t1 | b0>t0",
    "still 1 | b0>t0 b1>b0", "still -1 t0>b0 t1>t0 |", "over 1 t0>t0 t1>b0! |", "still 0 t0>t1 t1>t0 | b0>b0",
    # Tables that make no form.
    "still 1 |", "still -1 |", "over 1 |", "over -1 |", "still 0 t0>t1 |", "still 0 t0>b0 |", "still 0 t0>t1 t1>t1 |",
    "still 1 | b0>t1", "still 2 | b0>t0", "still 0 t0>b0 | b0>b0", "over 0 t0>t0 |", "over -1 t0>t0 |", "still 1 t0>t0 |",
    "still 2 t0>b1 t1>t5! | b0>t0", "still 1000000000000000000000000000000 |",
]


class WrittenTest(unittest.TestCase):
    def test_named_by_hand(self):
        for text, parts in TEXTS.items():
            self.assertEqual(str(Form(*parts)), text)

    def test_moves(self):
        self.assertEqual(str(Form.of([("turn", "bottom", 2)])), "still 0 | b0>b1! b1>b0!")
        self.assertEqual(str(Form.of([("cut", 3)])), "still -3 t0>b2 t1>b1 t2>b0 |")
        self.assertEqual(str(Form.of([("cut", -1), ("over",), ("face", ("top", 0))])), "over -1 | b0>b0! b1>t0")
        self.assertEqual(str(Form.of([("swap", ("top", 11), ("bottom", 0))]))[-23:], "t10>t10 t11>b0 | b0>t11")

    def test_parts_of_the_text(self):
        draw = random.Random(80)
        for trial in range(100):
            form = Form(*drawn_parts(draw, draw.randint(0, 12), draw.randint(0, 12)))
            words = str(form).split(" ")
            bar = words.index("|")
            self.assertEqual(words[:2], ["over" if form.turned else "still", str(form.shift)])
            for letter, table, found in (("t", form.top(), words[2:bar]), ("b", form.bottom(), words[bar + 1:])):
                self.assertEqual(found, [f"{letter}{depth}>{end[0]}{goal}" + "!" * turned
                                         for depth, (end, goal, turned) in enumerate(table)])


class ReadTest(unittest.TestCase):
    def check_text(self, text):
        try:
            form = Form.read(text)
        except BadText as error:
            self.assertEqual(error.at, 0)
            return
        self.assertEqual(str(form), text)

    def test_named_by_hand(self):
        for text, parts in TEXTS.items():
            self.assertEqual(Form.read(text), Form(*parts))
            self.assertEqual(model_parts(Form.read(text)), parts)
            self.assertIs(type(Form.read(text)), Form)
        self.assertEqual(Form.read(text="over 0 |"), Form(True, 0, [], []))
        self.assertEqual(Form.still().read("over 0 |"), Form(True, 0, [], []))

    def test_read_back(self):
        draw = random.Random(81)
        for trial in range(200):
            form = Form(*drawn_parts(draw, draw.randint(0, 15), draw.randint(0, 15)))
            self.assertEqual(Form.read(str(form)), form)

    def test_the_widest_forms(self):
        draw = random.Random(82)
        for above, below in ((400, 400), (400, 0), (0, 400), (399, 400)):
            form = Form(*drawn_parts(draw, above, below))
            self.assertEqual(Form.read(str(form)), form)
        wide = [f"{depth}>t{depth}!" for depth in range(401)]
        self.assertEqual(Form.read("still 0 t" + " t".join(wide[:400]) + " |").least, 400)
        self.assertEqual(raised(BadText, Form.read, "still 0 t" + " t".join(wide) + " |").at, 0)

    def test_other_texts(self):
        for text in NO_TEXTS:
            self.assertEqual(raised(BadText, Form.read, text).at, 0, text)

    def test_texts_that_differ_by_a_character(self):
        # What Form.read takes must be just what str returns.
        for text in list(TEXTS) + ["still 2 t0>t1! | b0>t2 b1>t0! b2>b0!", "over 0 t0>t1 t1>b1! | b0>b0 b1>t0!"]:
            for at in range(len(text) + 1):
                for sign in " 0123-+tb>!|\n":
                    self.check_text(text[:at] + sign + text[at:])
                    self.check_text(text[:at] + sign + text[at + 1:])
                self.check_text(text[:at] + text[at + 1:])


if __name__ == "__main__":
    unittest.main()
