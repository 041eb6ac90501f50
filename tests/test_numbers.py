"""Point 2 and the interface of numbers."""

import math
import random
import unittest

from pileports.errors import BadRemainder
from pileports.numbers import common_rounds, greatest_divisor, is_number, least_multiple, read_number


def tried(pairs):
    """The pair of common_rounds, by trying all numbers up to the common multiple."""
    multiple = math.lcm(*[m for r, m in pairs])
    for number in range(multiple):
        if all(number % m == r for r, m in pairs):
            return number, multiple
    return None


class GreatestDivisorTest(unittest.TestCase):
    def test_small(self):
        for one in range(-20, 21):
            for other in range(-20, 21):
                both = [d for d in range(1, 21) if one % d == 0 and other % d == 0]
                expected = 0 if one == other == 0 else max(both)
                self.assertEqual(greatest_divisor(one, other), expected, (one, other))

    def test_zero_and_negative(self):
        self.assertEqual(greatest_divisor(0, 0), 0)
        self.assertEqual(greatest_divisor(0, -7), 7)
        self.assertEqual(greatest_divisor(-7, 0), 7)
        self.assertEqual(greatest_divisor(-12, -18), 6)
        self.assertEqual(greatest_divisor(12, -18), 6)

    def test_great(self):
        draw = random.Random(1)
        for trial in range(200):
            one, other, shared = [draw.randint(-10 ** 20, 10 ** 20) for number in range(3)]
            self.assertEqual(greatest_divisor(one * shared, other * shared), math.gcd(one, other) * abs(shared))

    def test_names(self):
        self.assertEqual(greatest_divisor(other=4, one=6), 2)


class LeastMultipleTest(unittest.TestCase):
    def test_none_and_one(self):
        self.assertEqual(least_multiple(), 1)
        self.assertEqual(least_multiple(1), 1)
        self.assertEqual(least_multiple(10 ** 40 - 1), 10 ** 40 - 1)

    def test_several(self):
        self.assertEqual(least_multiple(4, 6), 12)
        self.assertEqual(least_multiple(6, 10, 15), 30)
        self.assertEqual(least_multiple(2, 3, 5, 7), 210)
        self.assertEqual(least_multiple(8, 8, 4), 8)
        self.assertEqual(least_multiple(*range(1, 100)), math.lcm(*range(1, 100)))

    def test_great(self):
        one, other = 10 ** 39 + 3, 10 ** 39 + 9
        self.assertEqual(least_multiple(one * 6, other * 4), math.lcm(one * 6, other * 4))


class CommonRoundsTest(unittest.TestCase):
    def test_example(self):
        self.assertEqual(common_rounds([(1, 4), (3, 6)]), (9, 12))

    def test_empty(self):
        self.assertEqual(common_rounds([]), (0, 1))
        self.assertEqual(common_rounds(()), (0, 1))

    def test_one_pair(self):
        self.assertEqual(common_rounds([(0, 1)]), (0, 1))
        self.assertEqual(common_rounds([(5, 7)]), (5, 7))
        self.assertEqual(common_rounds([(10 ** 399, 10 ** 399 + 1)]), (10 ** 399, 10 ** 399 + 1))

    def test_all_pairs_of_small_moduli(self):
        pairs = [(r, m) for m in range(1, 11) for r in range(m)]
        for one in pairs:
            for other in pairs:
                self.assertEqual(common_rounds([one, other]), tried([one, other]), (one, other))

    def test_several_small_moduli(self):
        draw = random.Random(2)
        found = 0
        for trial in range(400):
            moduli = [draw.randint(1, 12) for pair in range(draw.randint(3, 5))]
            number = draw.randint(0, 1000)
            pairs = [(number % m, m) for m in moduli]
            if draw.randint(0, 1):
                pairs[0] = (draw.randrange(moduli[0]), moduli[0])
            found += tried(pairs) is not None
            self.assertEqual(common_rounds(pairs), tried(pairs), pairs)
        self.assertTrue(200 <= found < 400)

    def test_none(self):
        self.assertIsNone(common_rounds([(0, 2), (1, 2)]))
        self.assertIsNone(common_rounds([(1, 4), (2, 6)]))
        self.assertIsNone(common_rounds([(1, 2), (1, 3), (0, 4)]))
        great = 10 ** 399
        self.assertIsNone(common_rounds([(3, 2 * great), (4, 2 * great + 2)]))

    def test_moduli_of_hundreds_of_digits(self):
        draw = random.Random(3)
        for trial in range(40):
            shared = draw.randint(1, 10 ** draw.randint(0, 150))
            moduli = [shared * draw.randint(1, 10 ** 240) for pair in range(4)]
            multiple = math.lcm(*moduli)
            number = draw.randrange(multiple)
            pairs = [(number % m, m) for m in moduli]
            self.assertEqual(common_rounds(pairs), (number, multiple))
            if shared > 1:
                pairs[2] = ((pairs[2][0] + 1) % moduli[2], moduli[2])
                self.assertIsNone(common_rounds(pairs))

    def test_neighbouring_moduli_of_400_digits(self):
        great = 10 ** 399
        self.assertEqual(common_rounds([(0, great), (1, great + 1)]), (great * great, great * (great + 1)))

    def bad_at(self, pairs):
        with self.assertRaises(BadRemainder) as caught:
            common_rounds(pairs)
        return caught.exception.at

    def test_bad_remainders(self):
        self.assertEqual(self.bad_at([(0, 0)]), 0)
        self.assertEqual(self.bad_at([(0, -1)]), 0)
        self.assertEqual(self.bad_at([(-1, 3)]), 0)
        self.assertEqual(self.bad_at([(3, 3)]), 0)
        self.assertEqual(self.bad_at([(1, 1)]), 0)
        self.assertEqual(self.bad_at([(-2, -1)]), 0)
        self.assertEqual(self.bad_at([(0, 1), (2, 3), (4, 4)]), 2)
        self.assertEqual(self.bad_at([(0, 1), (5, 3), (0, 0)]), 1)
        self.assertEqual(self.bad_at(((10 ** 399, 10 ** 399),)), 0)

    def test_bad_pair_ahead_of_none(self):
        self.assertEqual(self.bad_at([(0, 2), (1, 2), (7, 7)]), 2)

    def test_lists_and_tuples_are_not_changed(self):
        pairs = [(1, 4), (3, 6), (0, 9)]
        self.assertEqual(common_rounds(pairs), (9, 36))
        self.assertEqual(pairs, [(1, 4), (3, 6), (0, 9)])
        self.assertEqual(common_rounds(tuple(pairs)), (9, 36))
        self.assertEqual(common_rounds(remainders=pairs), (9, 36))

    def test_equal_calls_return_equal_results(self):
        pairs = [(1, 4), (3, 6)]
        self.assertEqual(common_rounds(pairs), common_rounds(pairs))


class ReadNumberTest(unittest.TestCase):
    def test_numbers(self):
        for number in (0, 1, -1, 9, 10, -10, 399, 10 ** 30, -(10 ** 30), 10 ** 31 - 1):
            self.assertEqual(read_number(str(number)), number)

    def test_other_texts(self):
        for text in ("", "-", "+1", "-0", "00", "01", "-01", " 1", "1 ", "1_0", "1.0", "x", "--1", "1-", "1\n",
                     str(10 ** 31), str(-(10 ** 31)), "1" * 20000):
            self.assertIsNone(read_number(text), text)

    def test_what_is_a_number(self):
        self.assertTrue(is_number(0) and is_number(-3) and is_number(10 ** 40))
        self.assertFalse(is_number(True) or is_number(False) or is_number("1") or is_number(None))


if __name__ == "__main__":
    unittest.main()
