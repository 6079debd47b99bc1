"""Points 8.1 to 8.4: what houses pay and receive, and the greatest payments that stand."""

import copy
import itertools
import random
import unittest

from fairbourse.errors import InvalidAmount, InvalidTrade
from fairbourse.money import split
from fairbourse.settle import cash_after, clearing, fallen, missing, receipts, received, round_of
from support import BourseCase
from tables import (
    MOST_DEBT, MOST_HELD, bad_amounts, bad_tables, drawn_table, empty_table, full_table, round_by_the_words,
)


def greatest_by_search(owed, cash):
    """The greatest amount of each house over all lists of payments at which nobody pays more than it can pay."""
    most = [0] * len(owed)
    for pay in itertools.product(*[range(sum(debts) + 1) for debts in owed]):
        if all(amount <= able for amount, able in zip(pay, round_by_the_words(owed, cash, pay))):
            most = [max(pair) for pair in zip(most, pay)]
    return most


class ReceiptsTest(BourseCase):
    def test_payments_in_full(self):
        owed = [[0, 6, 6, 2], [0, 0, 3, 0], [1, 1, 0, 1], [0, 0, 0, 0]]
        self.assertEqual(receipts(owed, [14, 3, 3, 0]), owed)
        self.assertEqual(received(owed, [14, 3, 3, 0]), [1, 7, 9, 3])

    def test_amounts_that_do_not_divide_evenly(self):
        owed = [[0, 6, 6, 2], [3, 0, 3, 3], [1, 1, 0, 1], [0, 0, 0, 0]]
        pay = [10, 4, 1, 0]
        before = copy.deepcopy((owed, pay))
        self.assertEqual(receipts(owed, pay), [[0, 5, 4, 1], [2, 0, 1, 1], [1, 0, 0, 0], [0, 0, 0, 0]])
        self.assertEqual(received(owed, pay), [3, 5, 5, 2])
        self.assertEqual((owed, pay), before)

    def test_no_payments(self):
        self.assertEqual(receipts([[0, 5], [0, 0]], [0, 0]), [[0, 0], [0, 0]])
        self.assertEqual(received([[0, 5], [0, 0]], [0, 0]), [0, 0])
        self.assertEqual(receipts([[0]], [0]), [[0]])
        self.assertEqual(received([[0]], [0]), [0])

    def test_as_split_says(self):
        draw = random.Random(1)
        for _ in range(60):
            owed = drawn_table(draw, draw.randint(1, 13), draw.choice([3, 50, MOST_DEBT]), 0.6)
            pay = [draw.randint(0, sum(debts)) for debts in owed]
            before = copy.deepcopy((owed, pay))
            table = receipts(owed, pay)
            self.assertEqual(table, [split(amount, debts) for amount, debts in zip(pay, owed)])
            self.assertEqual([sum(row) for row in table], pay)
            self.assertEqual(received(owed, pay), [sum(column) for column in zip(*table)])
            self.assertEqual((owed, pay), before)

    def test_the_table_is_a_new_one(self):
        owed = [[0, 5], [0, 0]]
        pay = [5, 0]
        receipts(owed, pay)[0][1] = 99
        received(owed, pay)[0] = 99
        self.assertEqual((owed, pay), ([[0, 5], [0, 0]], [5, 0]))


class RoundTest(BourseCase):
    def test_what_each_house_can_pay(self):
        owed = [[0, 6, 6, 2], [0, 0, 0, 0], [0, 0, 0, 0], [2, 0, 0, 0]]
        cash = [9, 0, 0, 0]
        self.assertEqual(round_of(owed, cash, [14, 0, 0, 2]), [11, 0, 0, 2])
        self.assertEqual(round_of(owed, cash, [11, 0, 0, 2]), [11, 0, 0, 1])
        self.assertEqual(round_of(owed, cash, [11, 0, 0, 1]), [10, 0, 0, 1])
        self.assertEqual(round_of(owed, cash, [10, 0, 0, 1]), [10, 0, 0, 1])
        self.assertEqual(round_of(owed, cash, [0, 0, 0, 0]), [9, 0, 0, 0])

    def test_the_lesser_of_the_debts_and_of_cash_with_receipts(self):
        owed = [[0, 10], [4, 0]]
        self.assertEqual(round_of(owed, [5, 0], [10, 4]), [9, 4])
        self.assertEqual(round_of(owed, [6, 0], [10, 4]), [10, 4])
        self.assertEqual(round_of(owed, [7, 9], [10, 4]), [10, 4])
        self.assertEqual(round_of(owed, [0, 0], [3, 3]), [3, 3])

    def test_payments_in_a_ring_stand(self):
        owed = [[0, 5, 0], [0, 0, 5], [5, 0, 0]]
        for amount in range(6):
            self.assertEqual(round_of(owed, [0, 0, 0], [amount] * 3), [amount] * 3)
        self.assertEqual(round_of(owed, [0, 0, 0], [5, 3, 1]), [1, 5, 3])

    def test_as_the_words_say(self):
        draw = random.Random(2)
        for _ in range(100):
            owed = drawn_table(draw, draw.randint(1, 6), draw.choice([3, 50]), 0.6)
            cash = [draw.randint(0, 60) for _ in owed]
            pay = [draw.randint(0, sum(debts)) for debts in owed]
            before = copy.deepcopy((owed, cash, pay))
            self.assertEqual(round_of(owed, cash, pay), round_by_the_words(owed, cash, pay))
            self.assertEqual((owed, cash, pay), before)


class ClearingTest(BourseCase):
    def check(self, owed, cash):
        """The payments keep what points 8.2 to 8.4 promise of all payments that stand. Returns them."""
        before = copy.deepcopy((owed, cash))
        pay = clearing(owed, cash)
        self.assertEqual(round_by_the_words(owed, cash, pay), pay)
        after = cash_after(owed, cash, pay)
        self.assertEqual(sum(after), sum(cash))
        self.assertTrue(all(0 <= amount for amount in after))
        failing = [house for house, debts in enumerate(owed) if pay[house] != sum(debts)]
        self.assertEqual(fallen(owed, pay), failing)
        self.assertEqual([after[house] for house in failing], [0] * len(failing))
        self.assertEqual((owed, cash), before)
        return pay

    def test_the_example(self):
        owed = [[0, 6, 6, 2], [0, 0, 0, 0], [0, 0, 0, 0], [2, 0, 0, 0]]
        self.assertEqual(self.check(owed, [9, 0, 0, 0]), [10, 0, 0, 1])

    def test_if_all_can_pay_all_is_paid(self):
        owed = [[0, 6, 6, 2], [0, 0, 0, 0], [0, 3, 0, 0], [2, 0, 0, 0]]
        self.assertEqual(self.check(owed, [12, 0, 0, 0]), [14, 0, 3, 2])
        self.assertEqual(self.check(owed, [99, 5, 0, 7]), [14, 0, 3, 2])
        draw = random.Random(3)
        for _ in range(50):
            owed = drawn_table(draw, draw.randint(1, 13), draw.choice([5, MOST_DEBT]), 0.5)
            full = [sum(debts) for debts in owed]
            lacking = [max(0, full[house] - sum(row[house] for row in owed)) for house in range(len(owed))]
            self.assertEqual(self.check(owed, lacking), full)

    def test_nobody_has_cash(self):
        self.assertEqual(self.check([[0, 5], [0, 0]], [0, 0]), [0, 0])
        self.assertEqual(self.check([[0, 5, 0], [0, 0, 5], [0, 0, 0]], [0, 0, 0]), [0, 0, 0])

    def test_a_ring_pays_itself(self):
        self.assertEqual(self.check([[0, 5, 0], [0, 0, 5], [5, 0, 0]], [0, 0, 0]), [5, 5, 5])
        self.assertEqual(self.check([[0, 5, 0], [0, 0, 7], [5, 0, 0]], [0, 0, 0]), [5, 5, 5])
        self.assertEqual(self.check([[0, 5, 0], [0, 0, 3], [5, 0, 0]], [0, 0, 0]), [3, 3, 3])
        self.assertEqual(self.check([[0, 5, 0], [0, 0, 3], [5, 0, 0]], [1, 0, 0]), [4, 3, 3])

    def test_a_chain(self):
        owed = [[0, 9, 0, 0], [0, 0, 9, 0], [0, 0, 0, 9], [0, 0, 0, 0]]
        self.assertEqual(self.check(owed, [4, 3, 1, 0]), [4, 7, 8, 0])
        self.assertEqual(self.check(owed, [4, 6, 1, 0]), [4, 9, 9, 0])

    def test_small_tables_against_all_lists_of_payments(self):
        draw = random.Random(4)
        for _ in range(300):
            houses = draw.choice([1, 2, 2, 3, 3, 3, 4])
            owed = drawn_table(draw, houses, {1: 0, 2: 9, 3: 3, 4: 2}[houses], draw.choice([0.4, 0.6, 1]))
            cash = [draw.choice([0, 0, draw.randint(0, 4)]) for _ in range(houses)]
            self.assertEqual(self.check(owed, cash), greatest_by_search(owed, cash))

    def test_rings_against_all_lists_of_payments(self):
        draw = random.Random(5)
        for _ in range(60):
            houses = draw.randint(2, 4)
            owed = empty_table(houses)
            for house in range(houses):
                owed[house][house - 1] = draw.randint(1, 4)
            owed[0][draw.randint(1, houses - 1)] += draw.randint(0, 3)
            cash = [draw.choice([0, 0, 0, 1]) for _ in range(houses)]
            self.assertEqual(self.check(owed, cash), greatest_by_search(owed, cash))

    def test_more_cash_lowers_no_payment(self):
        draw = random.Random(6)
        for _ in range(60):
            owed = drawn_table(draw, draw.randint(1, 13), draw.choice([3, 100]), 0.5)
            cash = [draw.randint(0, 40) for _ in owed]
            more = [amount + draw.choice([0, 0, draw.randint(0, 30)]) for amount in cash]
            for less, greater in zip(self.check(owed, cash), self.check(owed, more)):
                self.assertLessEqual(less, greater)

    def test_large_tables(self):
        draw = random.Random(7)
        for most in (1, 9, 1000, 10 ** 6, MOST_DEBT):
            for _ in range(12):
                owed = drawn_table(draw, 13, most, draw.choice([0.2, 0.5, 1]))
                self.check(owed, [draw.choice([0, draw.randint(0, 6 * most)]) for _ in range(13)])

    def test_one_house(self):
        for amount in (0, 1, MOST_HELD):
            self.assertEqual(self.check([[0]], [amount]), [0])

    def test_the_ends_of_the_ranges(self):
        for houses in (2, 3, 13):
            full = (houses - 1) * MOST_DEBT
            owed = full_table(houses, MOST_DEBT)
            self.assertEqual(self.check(owed, [0] * houses), [full] * houses)
            self.assertEqual(self.check(owed, [MOST_HELD] * houses), [full] * houses)
            owed[houses - 1] = [0] * houses
            self.assertEqual(self.check(owed, [MOST_HELD] * houses), [full] * (houses - 1) + [0])
            self.assertEqual(self.check(full_table(houses, 0), [MOST_HELD] * houses), [0] * houses)
        owed = empty_table(13)
        owed[5] = [MOST_DEBT] * 5 + [0] + [MOST_DEBT] * 7
        cash = [0] * 13
        cash[5] = 12 * MOST_DEBT - 1
        pay = self.check(owed, cash)
        self.assertEqual(pay, cash)
        self.assertEqual(receipts(owed, pay)[5], [MOST_DEBT] * 5 + [0] + [MOST_DEBT] * 6 + [MOST_DEBT - 1])

    def test_errors(self):
        for owed in bad_tables():
            for cash in ([0] * len(owed), [], [-1] * len(owed)):
                before = copy.deepcopy((owed, cash))
                self.raises(InvalidTrade, clearing, owed, cash)
                self.assertEqual((owed, cash), before)
        for houses in (1, 2, 13):
            for cash in bad_amounts(houses):
                owed = full_table(houses, 5)
                before = copy.deepcopy((owed, cash))
                self.raises(InvalidAmount, clearing, owed, cash)
                self.assertEqual((owed, cash), before)

    def test_the_list_is_a_new_one(self):
        owed = [[0, 5], [0, 0]]
        cash = [9, 0]
        for rows in (clearing(owed, cash), cash_after(owed, cash, [5, 0]), fallen(owed, [4, 0])):
            rows[0] = 99
            rows.append(1)
        self.assertEqual((owed, cash), ([[0, 5], [0, 0]], [9, 0]))


class AfterTest(BourseCase):
    def test_cash_after(self):
        owed = [[0, 6, 6, 2], [0, 0, 0, 0], [0, 0, 0, 0], [2, 0, 0, 0]]
        cash = [9, 0, 1, 0]
        pay = [10, 0, 0, 1]
        before = copy.deepcopy((owed, cash, pay))
        self.assertEqual(cash_after(owed, cash, pay), [0, 5, 5, 0])
        self.assertEqual((owed, cash, pay), before)
        self.assertEqual(cash_after([[0, 5], [0, 0]], [9, 0], [5, 0]), [4, 5])

    def test_fallen(self):
        owed = [[0, 6, 6, 2], [0, 0, 0, 0], [0, 0, 0, 0], [2, 0, 0, 0]]
        self.assertEqual(fallen(owed, [10, 0, 0, 1]), [0, 3])
        self.assertEqual(fallen(owed, [13, 0, 0, 2]), [0])
        self.assertEqual(fallen(owed, [14, 0, 0, 1]), [3])
        self.assertEqual(fallen(owed, [14, 0, 0, 2]), [])
        self.assertEqual(fallen([[0]], [0]), [])

    def test_missing(self):
        owed = [[0, 6, 6], [3, 0, 0], [0, 0, 0]]
        delivered = [[0, 5, 6], [0, 0, 0], [0, 0, 0]]
        before = copy.deepcopy((owed, delivered))
        table = missing(owed, delivered)
        self.assertEqual(table, [[0, 1, 0], [3, 0, 0], [0, 0, 0]])
        table[0][0] = 99
        self.assertEqual((owed, delivered), before)
        self.assertEqual(missing([[0]], [[0]]), [[0]])
        self.assertEqual(missing(owed, owed), empty_table(3))
        self.assertEqual(missing(owed, empty_table(3)), owed)


if __name__ == "__main__":
    unittest.main()
