"""The sessions under "Examples" of the document, as far as what they import has been built."""

import unittest

from pileports.alike import alike_sizes, first_difference
from pileports.errors import BadText, TooLong
from pileports.forms import Form
from pileports.numbers import common_rounds
from pileports.steady import form_of, steady_from
from pileports.words import Word
from tests.helpers import raised


class ExamplesTest(unittest.TestCase):
    def test_words(self):
        self.assertEqual(Word.read('cut 1; over').play(3), [(0, True), (2, True), (1, True)])
        self.assertEqual(raised(BadText, Word.read, 'cut 1; flip t0').at, 1)
        self.assertEqual(raised(TooLong, Word, ('cut', 61)).limit, 60)

    def test_forms(self):
        self.assertEqual(str(form_of(Word.read('carry t0 b1'))), 'still -1 t0>b1 | b0>b0')
        self.assertEqual(Form.read('over 1 t0>t0 |').listed(3), [(0, False), (2, True), (1, True)])

    def test_steady(self):
        self.assertEqual(steady_from(Word.read('swap t0 b2')), 4)

    def test_alike(self):
        self.assertEqual(alike_sizes(Word.read('swap t0 b2'), Word()), ('only', [0, 1, 2, 3]))
        self.assertEqual(first_difference(Word.read('face b0'), Word(), 4), (3, (3, True), (3, False)))

    def test_numbers(self):
        self.assertEqual(common_rounds([(1, 4), (3, 6)]), (9, 12))


if __name__ == "__main__":
    unittest.main()
