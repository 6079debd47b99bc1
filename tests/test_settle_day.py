"""Points 8.5 to 8.7: deliveries, settlements, and days with several instruments."""

import copy
import random
import unittest

from fairbourse.errors import InvalidAmount, InvalidTrade
from fairbourse.settle import Delivery, Settlement, cash_after, clearing, fallen, missing, receipts, settle_day
from support import BourseCase
from tables import MOST_DEBT, MOST_HELD, bad_amounts, bad_tables, drawn_table, empty_table, full_table, table_with


class DeliveryTest(BourseCase):
    def check(self, delivery, delivered, lacking, held, price):
        self.assertEqual(delivery.delivered, delivered)
        self.assertEqual(delivery.missing, lacking)
        self.assertEqual(delivery.held, held)
        self.assertEqual(delivery.price, price)

    def test_all_units_are_delivered(self):
        owed = [[0, 4], [0, 0]]
        self.check(Delivery(owed, [9, 1], 30), owed, [[0, 0], [0, 0]], [5, 5], 30)

    def test_missing_units(self):
        owed = [[0, 6, 6, 2], [0, 0, 0, 0], [0, 0, 0, 0], [2, 0, 0, 0]]
        delivered = [[0, 5, 4, 1], [0, 0, 0, 0], [0, 0, 0, 0], [1, 0, 0, 0]]
        lacking = [[0, 1, 2, 1], [0, 0, 0, 0], [0, 0, 0, 0], [1, 0, 0, 0]]
        self.check(Delivery(owed, [9, 0, 0, 0], 7), delivered, lacking, [0, 5, 4, 0], 7)

    def test_the_price_0_and_no_units(self):
        self.check(Delivery([[0]], [5], 0), [[0]], [[0]], [5], 0)
        self.check(Delivery([[0, 3], [0, 0]], [0, 0], 0), [[0, 0], [0, 0]], [[0, 3], [0, 0]], [0, 0], 0)

    def test_as_cents_are_paid(self):
        draw = random.Random(1)
        for _ in range(60):
            owed = drawn_table(draw, draw.randint(1, 13), draw.choice([3, 100, MOST_DEBT]), 0.5)
            held = [draw.choice([0, draw.randint(0, 200)]) for _ in owed]
            price = draw.randint(0, 10 ** 6)
            before = copy.deepcopy((owed, held))
            pay = clearing(owed, held)
            delivered = receipts(owed, pay)
            expected = (delivered, missing(owed, delivered), cash_after(owed, held, pay), price)
            self.check(Delivery(owed, held, price), *expected)
            self.assertEqual((owed, held), before)

    def test_errors_in_their_order(self):
        for owed in bad_tables():
            for held in ([0] * len(owed), [], [-1]):
                self.raises(InvalidTrade, Delivery, owed, held, 5)
        for houses in (1, 2, 13):
            for held in bad_amounts(houses):
                owed = full_table(houses, 1)
                before = copy.deepcopy((owed, held))
                self.raises(InvalidTrade, Delivery, owed, held, -1)
                self.raises(InvalidAmount, Delivery, owed, held, 0)
                self.assertEqual((owed, held), before)
        for price in (-1, -10 ** 30):
            self.raises(InvalidTrade, Delivery, [[0]], [0], price)

    def test_changing_lists_changes_no_object(self):
        owed = [[0, 6], [0, 0]]
        held = [4, 1]
        delivery = Delivery(owed, held, 3)
        owed[0][1] = 99
        held[0] = 99
        self.check(delivery, [[0, 4], [0, 0]], [[0, 2], [0, 0]], [0, 5], 3)
        delivery.delivered[0][1] = 50
        delivery.held[0] = 50
        delivery.missing[0][1] = 50
        self.assertEqual((owed, held), ([[0, 99], [0, 0]], [99, 1]))


class SettlementTest(BourseCase):
    def test_the_fields(self):
        owed = [[0, 6, 6, 2], [0, 0, 0, 0], [0, 0, 0, 0], [2, 0, 0, 0]]
        settlement = Settlement([], owed, [9, 0, 1, 0])
        self.assertEqual(settlement.deliveries, [])
        self.assertEqual(settlement.owed, owed)
        self.assertEqual(settlement.pay, [10, 0, 0, 1])
        self.assertEqual(settlement.paid, [[0, 5, 4, 1], [0, 0, 0, 0], [0, 0, 0, 0], [1, 0, 0, 0]])
        self.assertEqual(settlement.cash, [0, 5, 5, 0])
        self.assertEqual(settlement.fallen, [0, 3])

    def test_deliveries_are_kept_as_they_are_passed(self):
        first, second = Delivery([[0]], [1], 2), Delivery([[0]], [3], 4)
        deliveries = [first, second]
        settlement = Settlement(deliveries, [[0]], [0])
        deliveries.clear()
        self.assertEqual(len(settlement.deliveries), 2)
        self.assertIs(settlement.deliveries[0], first)
        self.assertIs(settlement.deliveries[1], second)

    def test_as_clearing_says(self):
        draw = random.Random(2)
        for _ in range(60):
            owed = drawn_table(draw, draw.randint(1, 13), draw.choice([3, 100]), 0.5)
            cash = [draw.choice([0, draw.randint(0, 200)]) for _ in owed]
            before = copy.deepcopy((owed, cash))
            settlement = Settlement([], owed, cash)
            pay = clearing(owed, cash)
            self.assertEqual(settlement.pay, pay)
            self.assertEqual(settlement.owed, owed)
            self.assertEqual(settlement.paid, receipts(owed, pay))
            self.assertEqual(settlement.cash, cash_after(owed, cash, pay))
            self.assertEqual(settlement.fallen, fallen(owed, pay))
            self.assertEqual((owed, cash), before)

    def test_errors_in_their_order(self):
        for owed in bad_tables():
            for cash in ([0] * len(owed), [], [-1]):
                self.raises(InvalidTrade, Settlement, [], owed, cash)
        for houses in (1, 2, 13):
            for cash in bad_amounts(houses):
                self.raises(InvalidAmount, Settlement, [], full_table(houses, 1), cash)

    def test_changing_lists_changes_no_object(self):
        owed = [[0, 6], [0, 0]]
        cash = [4, 1]
        settlement = Settlement([], owed, cash)
        owed[0][1] = 99
        owed.append([1])
        cash[0] = 99
        self.assertEqual(settlement.owed, [[0, 6], [0, 0]])
        self.assertEqual(settlement.cash, [0, 5])
        settlement.owed[0][1] = 50
        self.assertEqual(owed, [[0, 99], [0, 0], [1]])


class SettleDayTest(BourseCase):
    def check(self, instruments, owed, cash):
        """The settlement is as point 8.6 says, put together from its parts. Returns it."""
        before = copy.deepcopy((instruments, owed, cash))
        settlement = settle_day(instruments, owed, cash)
        self.assertEqual((instruments, owed, cash), before)
        self.assertEqual(len(settlement.deliveries), len(instruments))
        debts = copy.deepcopy(owed)
        for (units, held, price), delivery in zip(instruments, settlement.deliveries):
            alone = Delivery(units, held, price)
            self.assertEqual(vars(delivery), vars(alone))
            for debtor, row in enumerate(alone.missing):
                for creditor, lacking in enumerate(row):
                    debts[debtor][creditor] += lacking * price
        expected = vars(Settlement([], debts, cash))
        expected["deliveries"] = settlement.deliveries
        self.assertEqual(vars(settlement), expected)
        return settlement

    def test_no_instrument(self):
        settlement = self.check([], [[0, 6], [0, 0]], [4, 0])
        self.assertEqual((settlement.owed, settlement.pay), ([[0, 6], [0, 0]], [4, 0]))

    def test_one_instrument(self):
        settlement = self.check([([[0, 5], [0, 0]], [3, 0], 100)], [[0, 6], [0, 0]], [150, 0])
        self.assertEqual(settlement.owed, [[0, 206], [0, 0]])
        self.assertEqual(settlement.pay, [150, 0])
        self.assertEqual(settlement.cash, [0, 150])
        self.assertEqual(settlement.fallen, [0])

    def test_several_instruments(self):
        first = ([[0, 5, 0], [0, 0, 0], [0, 1, 0]], [3, 0, 0], 100)
        second = ([[0, 0, 4], [7, 0, 0], [0, 0, 0]], [0, 9, 0], 10)
        third = ([[0, 0, 0], [2, 0, 2], [0, 0, 0]], [0, 1, 5], 1)
        settlement = self.check([first, second, third], [[0, 1, 1], [1, 0, 1], [1, 1, 0]], [500, 0, 500])
        self.assertEqual(settlement.owed, [[0, 201, 1], [2, 0, 3], [1, 101, 0]])
        self.assertEqual(settlement.pay, [202, 5, 102])
        self.assertEqual(settlement.cash, [301, 297, 402])
        self.assertEqual(settlement.fallen, [])
        self.assertEqual([delivery.price for delivery in settlement.deliveries], [100, 10, 1])

    def test_one_house(self):
        self.check([([[0]], [MOST_HELD], 10 ** 20)], [[0]], [MOST_HELD])

    def test_drawn_days(self):
        draw = random.Random(3)
        for _ in range(60):
            houses = draw.randint(1, 13)
            instruments = [
                (drawn_table(draw, houses, 9, 0.3), [draw.choice([0, draw.randint(0, 40)]) for _ in range(houses)],
                 draw.randint(0, 50))
                for _ in range(draw.randint(0, 4))
            ]
            cash = [draw.choice([0, draw.randint(0, 500)]) for _ in range(houses)]
            self.check(instruments, drawn_table(draw, houses, 90, 0.4), cash)

    def test_a_debt_above_the_bound_by_missing_units(self):
        lacking = [[0, 1], [0, 0]]
        owed = [[0, MOST_DEBT - 5], [0, 0]]
        self.check([(lacking, [0, 0], 5)], owed, [0, 0])
        self.raises(InvalidTrade, settle_day, [(lacking, [0, 0], 6)], owed, [0, 0])
        self.check([(lacking, [0, 0], 2), (lacking, [0, 0], 3)], owed, [0, 0])
        self.raises(InvalidTrade, settle_day, [(lacking, [0, 0], 3), (lacking, [0, 0], 3)], owed, [0, 0])
        self.check([(lacking, [1, 0], 6), (lacking, [9, 0], 10 ** 30)], owed, [0, 0])
        self.raises(InvalidTrade, settle_day, [([[0, MOST_DEBT], [0, 0]], [0, 0], 2)], [[0, 0], [0, 0]], [0, 0])
        self.check([([[0, MOST_DEBT], [0, 0]], [0, 0], 1)], [[0, 0], [0, 0]], [MOST_HELD, 0])

    def test_the_bound_is_checked_after_all_instruments(self):
        over = ([[0, 1], [0, 0]], [0, 0], MOST_DEBT + 1)
        self.raises(InvalidTrade, settle_day, [over], empty_table(2), [0, 0])
        bad_held = (empty_table(2), [0, -1], 0)
        self.raises(InvalidAmount, settle_day, [over, bad_held], empty_table(2), [0, 0])
        self.raises(InvalidAmount, settle_day, [bad_held, over], empty_table(2), [0, 0])

    def test_debts_then_cash_are_checked_before_the_instruments(self):
        bad_instruments = [
            [], [([[0]], [0], 0)], [(empty_table(2), [0], 0)], [(empty_table(2), [0, 0], -1)], [([[0, -1], [0, 0]], [0, 0], 0)],
        ]
        for instruments in bad_instruments:
            for owed in bad_tables(2):
                for cash in ([0, 0], [0], [0, -1]):
                    before = copy.deepcopy((instruments, owed, cash))
                    self.raises(InvalidTrade, settle_day, instruments, owed, cash)
                    self.assertEqual((instruments, owed, cash), before)
            for cash in bad_amounts(2):
                before = copy.deepcopy((instruments, cash))
                self.raises(InvalidAmount, settle_day, instruments, empty_table(2), cash)
                self.assertEqual((instruments, cash), before)

    def test_the_errors_of_an_instrument_in_their_order(self):
        good = (table_with(2, 0, 1, 3), [1, 0], 2)
        wrong_trades = [
            ([[0]], [0, 0], 0), (empty_table(3), [0, 0, 0], 0), ([], [], 0), ([[0]], [-1, 0], 0), ([[0]], [0], -1),
            (empty_table(2), [0, 0], -1), (empty_table(2), [-1], -1), (table_with(2, 0, 1, -1), [-1, 0], 5),
            (table_with(2, 1, 1, 1), [0], 5), (table_with(2, 1, 0, MOST_DEBT + 1), [0, 0], 5), ([[0, 0], [0]], [0, 0], 5),
        ]
        wrong_amounts = [(empty_table(2), held, 0) for held in bad_amounts(2)]
        for wrong, error in [(row, InvalidTrade) for row in wrong_trades] + [(row, InvalidAmount) for row in wrong_amounts]:
            for instruments in ([wrong], [wrong, good], [good, wrong], [good, good, wrong]):
                owed = full_table(2, 7)
                cash = [4, 0]
                before = copy.deepcopy((instruments, owed, cash))
                self.raises(error, settle_day, instruments, owed, cash)
                self.assertEqual((instruments, owed, cash), before)

    def test_two_instruments_with_errors(self):
        trade = (empty_table(2), [0, 0], -1)
        amount = (empty_table(2), [0, -1], 0)
        self.raises(InvalidTrade, settle_day, [trade, amount], empty_table(2), [0, 0])
        self.raises(InvalidAmount, settle_day, [amount, trade], empty_table(2), [0, 0])

    def test_changing_lists_changes_no_object(self):
        units, held = [[0, 5], [0, 0]], [3, 0]
        instruments = [(units, held, 100)]
        owed, cash = [[0, 6], [0, 0]], [150, 0]
        settlement = settle_day(instruments, owed, cash)
        expected = copy.deepcopy([vars(settlement.deliveries[0]), settlement.owed, settlement.cash])
        units[0][1] = held[0] = owed[0][1] = cash[0] = 99
        instruments.clear()
        owed.clear()
        self.assertEqual([vars(settlement.deliveries[0]), settlement.owed, settlement.cash], expected)
        empty = [[0, 6], [0, 0]]
        settle_day([], empty, cash).owed[0][1] = 50
        self.assertEqual(empty, [[0, 6], [0, 0]])


if __name__ == "__main__":
    unittest.main()
