"""Points 7.5 and 7.6: dividends and splits."""

import copy
import random
import unittest

from fairbourse.corporate import dividend, share_split
from fairbourse.errors import InvalidAmount
from support import BourseCase

NO_UNITS = (-1, -10 ** 20, True, False, None, "5", 1.0)
NO_FACTORS = (0,) + NO_UNITS


class DividendTest(BourseCase):
    def test_units_times_cents_in_the_order_of_the_houses(self):
        holdings = [("birch", 7), ("alder", 4), ("cedar", 0), ("birch", 1)]
        before = list(holdings)
        self.assertEqual(dividend(holdings, 30), [("birch", 210), ("alder", 120), ("cedar", 0), ("birch", 30)])
        self.assertEqual(holdings, before)

    def test_nothing(self):
        self.assertEqual(dividend([], 5), [])
        self.assertEqual(dividend([("a", 5), ("b", 0)], 0), [("a", 0), ("b", 0)])

    def test_large_numbers(self):
        self.assertEqual(dividend([("a", 10 ** 20)], 10 ** 20), [("a", 10 ** 40)])

    def test_numbers_out_of_range(self):
        for bad in NO_UNITS:
            self.raises(InvalidAmount, dividend, [("a", 1)], bad)
            self.raises(InvalidAmount, dividend, [], bad)
            for holdings in ([("a", bad)], [("a", 1), ("b", bad)], [("a", bad), ("b", 1)]):
                before = copy.deepcopy(holdings)
                self.raises(InvalidAmount, dividend, holdings, 1)
                self.assertEqual(holdings, before)

    def test_the_list_is_a_new_one(self):
        holdings = [("a", 5)]
        rows = dividend(holdings, 1)
        rows.append(("b", 1))
        self.assertEqual(holdings, [("a", 5)])


class ShareSplitTest(BourseCase):
    def test_the_example(self):
        self.assertEqual(share_split([("alder", 7), ("birch", 4)], 3, 2, 500), [("alder", 10, 250), ("birch", 6, 0)])

    def test_in_the_order_of_the_houses(self):
        holdings = [("b", 1), ("a", 2), ("b", 3)]
        before = list(holdings)
        self.assertEqual(share_split(holdings, 2, 1, 5), [("b", 2, 0), ("a", 4, 0), ("b", 6, 0)])
        self.assertEqual(holdings, before)

    def test_remainders_and_their_cents_are_rounded_down(self):
        self.assertEqual(share_split([("a", 1), ("b", 2), ("c", 3), ("d", 5)], 1, 3, 100),
                         [("a", 0, 33), ("b", 0, 66), ("c", 1, 0), ("d", 1, 66)])
        self.assertEqual(share_split([("a", 5)], 5, 7, 10), [("a", 3, 5)])
        self.assertEqual(share_split([("a", 1)], 1, 1000, 999), [("a", 0, 0)])
        self.assertEqual(share_split([("a", 1)], 1, 1000, 1000), [("a", 0, 1)])
        self.assertEqual(share_split([("a", 999)], 1, 1000, 1000000), [("a", 0, 999000)])

    def test_numerator_and_denominator_are_taken_as_they_are(self):
        self.assertEqual(share_split([("a", 7)], 6, 4, 500), [("a", 10, 250)])
        self.assertEqual(share_split([("a", 7)], 4, 4, 500), [("a", 7, 0)])

    def test_nothing(self):
        self.assertEqual(share_split([], 3, 2, 1), [])
        self.assertEqual(share_split([("a", 0)], 3, 2, 10 ** 6), [("a", 0, 0)])

    def test_large_numbers(self):
        self.assertEqual(share_split([("a", 10 ** 20 + 1)], 10 ** 9, 10 ** 9 + 7, 10 ** 6),
                         [("a", (10 ** 20 + 1) * 10 ** 9 // (10 ** 9 + 7),
                           (10 ** 20 + 1) * 10 ** 9 % (10 ** 9 + 7) * 10 ** 6 // (10 ** 9 + 7))])

    def test_nothing_is_lost_but_fractions_of_a_cent(self):
        draw = random.Random(1)
        for _ in range(200):
            units, price = draw.randint(0, 50), draw.randint(1, 50)
            numerator, denominator = draw.randint(1, 9), draw.randint(1, 9)
            (_, new, cents), = share_split([("a", units)], numerator, denominator, price)
            rest = units * numerator - new * denominator
            self.assertTrue(0 <= rest < denominator)
            self.assertTrue(0 <= rest * price - cents * denominator < denominator)

    def test_numbers_out_of_range(self):
        for bad in NO_UNITS:
            for holdings in ([("a", bad)], [("a", 1), ("b", bad)], [("a", bad), ("b", 1)]):
                before = copy.deepcopy(holdings)
                self.raises(InvalidAmount, share_split, holdings, 1, 1, 1)
                self.assertEqual(holdings, before)
        for bad in NO_FACTORS:
            for holdings in ([], [("a", 5)]):
                self.raises(InvalidAmount, share_split, holdings, bad, 1, 1)
                self.raises(InvalidAmount, share_split, holdings, 1, bad, 1)
                self.raises(InvalidAmount, share_split, holdings, 1, 1, bad)
        self.assertEqual(share_split([("a", 0)], 1, 1, 1), [("a", 0, 0)])


if __name__ == "__main__":
    unittest.main()
