"""The sessions under "Examples" of the document."""

import unittest

from pileports.alike import alike_sizes, first_difference
from pileports.console import Console
from pileports.errors import BadText, TooLong
from pileports.forms import Form
from pileports.numbers import common_rounds
from pileports.pages import write_page
from pileports.piles import MarkedPile
from pileports.rooms import Room
from pileports.rounds import after
from pileports.steady import form_of, steady_from
from pileports.ways import census, way_length
from pileports.wires import families, steady_order
from pileports.wishes import meeting, wish
from pileports.words import Word
from tests.helpers import raised


class ExamplesTest(unittest.TestCase):
    def test_words(self):
        self.assertEqual(Word.read('cut 1; over').play(3), [(0, True), (2, True), (1, True)])
        self.assertEqual(raised(BadText, Word.read, 'cut 1; flip t0').at, 1)
        self.assertEqual(raised(TooLong, Word, ('cut', 61)).limit, 60)

    def test_forms(self):
        self.assertEqual(str(form_of(Word.read('carry t0 b1'))), 'still -1 t0>b1 | b0>b0')
        self.assertEqual(Form.read('over 1 t0>t0 |').listed(3), [(0, False), (2, True), (1, True)])

    def test_steady(self):
        self.assertEqual(steady_from(Word.read('swap t0 b2')), 4)

    def test_alike(self):
        self.assertEqual(alike_sizes(Word.read('swap t0 b2'), Word()), ('only', [0, 1, 2, 3]))
        self.assertEqual(first_difference(Word.read('face b0'), Word(), 4), (3, (3, True), (3, False)))

    def test_ways(self):
        self.assertEqual(way_length(Word.read('cut 1'), 10 ** 30, 0), (1000000000000000000000000000000, False))
        self.assertEqual(census(Word.read('over'), 5), [(1, True, 1), (2, False, 2)])

    def test_wires(self):
        self.assertEqual(families(Word.read('cut -2')), [[(1, 1, False), (1, 1, False)], [(3, 2, False)]])
        self.assertEqual(steady_order(Word.read('over; face t0')), 4)

    def test_rounds(self):
        self.assertEqual(after(Word.read('cut 1'), 10 ** 30, 5, 10 ** 29), (900000000000000000000000000005, False))

    def test_wishes(self):
        self.assertEqual(meeting(Word.read('cut -1'), 7, 2, 0), (5, 7))
        self.assertEqual(wish(Word.read('cut -2'), 4, [(0, 2, None), (1, 3, None)]), ('rounds', 1))
        self.assertEqual(wish(Word.read('cut -1'), 7, [(0, 3, None), (1, 5, None)]), ('clash', 0, 1))

    def test_piles(self):
        pile = MarkedPile(10 ** 30)
        pile.mark('ace', 0)
        pile.play(Word.read('cut 1'), rounds=10)
        self.assertEqual(pile.marks(), {'ace': 999999999999999999999999999990})

    def test_rooms(self):
        room = Room()
        first = room.apply_all([('word', 'a', 'cut 1'), ('word', 'b', 'carry t0 b0'), ('watch', 'a', 'b')])
        second = room.apply(('word', 'b', 'cut 2'))
        self.assertEqual([first, second], [[(1, True)], [(1, False)]])

    def test_pages(self):
        room = Room()
        news = room.apply_all([('word', 'a', 'cut 1'), ('pile', 'p', 3), ('mark', 'p', 'm', 0), ('play', 'p', 'a', 2)])
        self.assertEqual(news, [])
        self.assertEqual(write_page(room), 'word a cut 1\npile p 3\nplay 2 cut 1\nmark m 0\nnext 1\n')

    def test_console(self):
        console = Console()
        first = console.run('word a cut 1')
        self.assertEqual([first, console.run('order a 12'), console.run('show b'), console.run('show')],
                         ['ok', '12', 'error NoWord', 'invalid'])

    def test_numbers(self):
        self.assertEqual(common_rounds([(1, 4), (3, 6)]), (9, 12))


if __name__ == "__main__":
    unittest.main()
