"""Points 6.1 to 6.8: nets, novation, and netting of debts."""

import copy
import random
import unittest

from fairbourse.errors import InvalidTrade
from fairbourse.netting import bilateral, compress, net_amounts, nets, novate, unwind
from support import BourseCase
from tables import MOST_DEBT as MOST
from tables import drawn_table, empty_table

OF_DEBTS = (net_amounts, bilateral, compress, unwind)
BAD_TRADES = [
    ("a", "a", 5, 100), ("", "", 5, 100), ("", "b", 5, 100), ("a", "", 5, 100),
    ("a", "b", 0, 100), ("a", "b", -1, 100), ("a", "b", -10 ** 30, 0), ("a", "b", True, 100), ("a", "b", None, 100),
    ("a", "b", 5, -1), ("a", "b", 5, -10 ** 30), ("a", "b", 5, True), ("a", "b", 5, False), ("a", "b", 5, None),
    ("a", "a", 0, -1),
]


def drawn_tables(seed, rounds):
    draw = random.Random(seed)
    for _ in range(rounds):
        yield drawn_table(draw, draw.randint(1, 13), draw.choice([1, 3, 100, MOST]), draw.choice([0.1, 0.3, 0.6, 1]))


def nets_by_the_words(owed):
    houses = range(len(owed))
    return [sum(owed[other][house] for other in houses) - sum(owed[house][other] for other in houses) for house in houses]


class NetsTest(BourseCase):
    def test_the_example(self):
        self.assertEqual(nets([("b", "a", 5, 100)]), [("a", -5, 100), ("b", 5, -100)])

    def test_no_trades(self):
        self.assertEqual(nets([]), [])

    def test_several_trades(self):
        trades = [("b", "a", 5, 100), ("a", "c", 2, 30), ("c", "b", 9, 1), ("a", "c", 1, 0)]
        self.assertEqual(nets(trades), [("a", -2, 70), ("b", -4, -99), ("c", 6, 29)])

    def test_a_house_with_nothing_in_the_end(self):
        trades = [("b", "a", 5, 100), ("a", "b", 5, 100)]
        self.assertEqual(nets(trades), [("a", 0, 0), ("b", 0, 0)])

    def test_the_names_are_in_ascending_order(self):
        trades = [("b", "a", 1, 0), ("Z", "10", 1, 0), ("9", "ab", 1, 0)]
        self.assertEqual([row[0] for row in nets(trades)], ["10", "9", "Z", "a", "ab", "b"])

    def test_large_numbers(self):
        self.assertEqual(nets([("a", "b", 10 ** 20, 10 ** 30)]), [("a", 10 ** 20, -10 ** 30), ("b", -10 ** 20, 10 ** 30)])

    def test_the_least_numbers(self):
        self.assertEqual(nets([("a", "b", 1, 0)]), [("a", 1, 0), ("b", -1, 0)])

    def test_invalid_trades(self):
        for bad in BAD_TRADES:
            for trades in ([bad], [bad, ("b", "a", 1, 1)], [("b", "a", 1, 1), bad]):
                before = list(trades)
                self.raises(InvalidTrade, nets, trades)
                self.assertEqual(trades, before)

    def test_the_sums_are_0(self):
        draw = random.Random(1)
        for _ in range(50):
            trades = [(*draw.sample("abcde", 2), draw.randint(1, 9), draw.randint(0, 99)) for _ in range(draw.randint(0, 12))]
            before = list(trades)
            rows = nets(trades)
            self.assertEqual(trades, before)
            self.assertEqual([row[0] for row in rows], sorted({name for trade in trades for name in trade[:2]}))
            self.assertEqual((sum(row[1] for row in rows), sum(row[2] for row in rows)), (0, 0))
            for house, units, cents in rows:
                bought = sum(trade[2] for trade in trades if trade[0] == house)
                sold = sum(trade[2] for trade in trades if trade[1] == house)
                paid = sum(trade[3] for trade in trades if trade[0] == house)
                received = sum(trade[3] for trade in trades if trade[1] == house)
                self.assertEqual((units, cents), (bought - sold, received - paid))


class NovateTest(BourseCase):
    def test_two_trades_for_each_trade(self):
        trades = [("b", "a", 5, 100), ("a", "c", 2, 0)]
        expected = [("b", "hall", 5, 100), ("hall", "a", 5, 100), ("a", "hall", 2, 0), ("hall", "c", 2, 0)]
        self.assertEqual(novate(trades, "hall"), expected)
        self.assertEqual(trades, [("b", "a", 5, 100), ("a", "c", 2, 0)])

    def test_no_trades(self):
        self.assertEqual(novate([], "hall"), [])

    def test_the_nets_stay_as_they_were_and_the_center_has_nothing(self):
        trades = [("b", "a", 5, 100), ("a", "c", 2, 30), ("c", "b", 9, 1)]
        self.assertEqual(nets(novate(trades, "hall")), nets(trades) + [("hall", 0, 0)])

    def test_the_center_is_a_house_of_the_trades(self):
        trades = [("b", "a", 5, 100), ("a", "c", 2, 30), ("d", "a", 1, 1)]
        for center in ("a", "b", "c", "d"):
            self.raises(InvalidTrade, novate, trades, center)
        self.assertEqual(len(novate(trades, "e")), 6)
        self.assertEqual(len(novate(trades, "A")), 6)
        self.assertEqual(trades, [("b", "a", 5, 100), ("a", "c", 2, 30), ("d", "a", 1, 1)])

    def test_a_center_of_its_own_trades_cannot_be_put_between_again(self):
        self.raises(InvalidTrade, novate, novate([("b", "a", 5, 100)], "hall"), "hall")

    def test_invalid_trades(self):
        for bad in BAD_TRADES:
            for trades in ([bad], [bad, ("b", "a", 1, 1)], [("b", "a", 1, 1), bad]):
                self.raises(InvalidTrade, novate, trades, "hall")


class InvalidTableTest(BourseCase):
    def refused(self, owed):
        before = copy.deepcopy(owed)
        for function in OF_DEBTS:
            self.raises(InvalidTrade, function, owed)
            self.assertEqual(owed, before)

    def accepted(self, owed):
        for function in OF_DEBTS:
            function(owed)

    def test_the_number_of_houses(self):
        self.refused([])
        self.refused(empty_table(14))
        self.refused(empty_table(15))
        for houses in range(1, 14):
            self.accepted(empty_table(houses))

    def test_the_lengths_of_the_rows(self):
        for houses in (1, 2, 3, 13):
            for at in range(houses):
                for row in ([], [0] * (houses - 1), [0] * (houses + 1), [0] * 14):
                    owed = empty_table(houses)
                    owed[at] = row
                    self.refused(owed)

    def test_rows_without_an_own_place(self):
        self.refused([[0, 0, 0], [0, 0, 0]])
        self.refused([[0], [0]])
        self.refused([[]])

    def test_a_debt_to_oneself(self):
        for houses in (1, 2, 3, 13):
            for at in range(houses):
                for debt in (1, MOST, -1):
                    owed = empty_table(houses)
                    owed[at][at] = debt
                    self.refused(owed)

    def test_debts_out_of_range(self):
        for houses in (2, 3, 13):
            for debtor in range(houses):
                for creditor in range(houses):
                    if debtor != creditor:
                        for debt in (-1, MOST + 1, 10 ** 30, -10 ** 30, True, None):
                            owed = empty_table(houses)
                            owed[debtor][creditor] = debt
                            self.refused(owed)

    def test_the_greatest_debts(self):
        for houses in (2, 3, 13):
            owed = [[0 if debtor == creditor else MOST for creditor in range(houses)] for debtor in range(houses)]
            self.accepted(owed)
            self.assertEqual(net_amounts(owed), [0] * houses)


class NetAmountsTest(BourseCase):
    def test_owed_less_owing(self):
        self.assertEqual(net_amounts([[0, 5, 0], [0, 0, 5], [2, 0, 0]]), [-3, 0, 3])
        self.assertEqual(net_amounts([[0]]), [0])
        self.assertEqual(net_amounts([[0, MOST], [0, 0]]), [-MOST, MOST])
        self.assertEqual(net_amounts([[0, 7, 1], [3, 0, 0], [0, 10, 0]]), [-5, 14, -9])

    def test_drawn_tables(self):
        for owed in drawn_tables(2, 60):
            before = copy.deepcopy(owed)
            self.assertEqual(net_amounts(owed), nets_by_the_words(owed))
            self.assertEqual(owed, before)


class BilateralTest(BourseCase):
    def test_the_debts_of_a_pair(self):
        self.assertEqual(bilateral([[0, 7], [3, 0]]), [[0, 4], [0, 0]])
        self.assertEqual(bilateral([[0, 3], [7, 0]]), [[0, 0], [4, 0]])
        self.assertEqual(bilateral([[0, 7], [7, 0]]), [[0, 0], [0, 0]])
        self.assertEqual(bilateral([[0, 7], [0, 0]]), [[0, 7], [0, 0]])
        self.assertEqual(bilateral([[0]]), [[0]])

    def test_each_pair_for_itself(self):
        self.assertEqual(bilateral([[0, 5, 0], [0, 0, 5], [2, 0, 0]]), [[0, 5, 0], [0, 0, 5], [2, 0, 0]])
        self.assertEqual(bilateral([[0, 5, 1], [2, 0, 5], [4, 9, 0]]), [[0, 3, 0], [0, 0, 0], [3, 4, 0]])

    def test_drawn_tables(self):
        for owed in drawn_tables(3, 60):
            before = copy.deepcopy(owed)
            table = bilateral(owed)
            self.assertEqual(owed, before)
            for a, row in enumerate(table):
                for b, debt in enumerate(row):
                    self.assertEqual(debt - table[b][a], owed[a][b] - owed[b][a])
                    self.assertEqual(min(debt, table[b][a]), 0)

    def test_the_table_is_a_new_one(self):
        owed = [[0, 7], [0, 0]]
        table = bilateral(owed)
        table[0][1] = 9
        self.assertEqual(owed, [[0, 7], [0, 0]])


def compress_by_the_words(owed):
    """Point 6.6, cent by cent."""
    amounts = nets_by_the_words(owed)
    payments = []
    while any(amounts):
        payer = [house for house, amount in enumerate(amounts) if amount < 0][0]
        receiver = [house for house, amount in enumerate(amounts) if amount > 0][0]
        if not payments or payments[-1][:2] != [payer, receiver]:
            payments.append([payer, receiver, 0])
        payments[-1][2] += 1
        amounts[payer] += 1
        amounts[receiver] -= 1
    return [tuple(payment) for payment in payments]


class CompressTest(BourseCase):
    def test_the_example(self):
        self.assertEqual(compress([[0, 5, 0], [0, 0, 5], [2, 0, 0]]), [(0, 2, 3)])

    def test_nothing_to_pay(self):
        self.assertEqual(compress([[0]]), [])
        self.assertEqual(compress(empty_table(13)), [])
        self.assertEqual(compress([[0, 5, 0], [0, 0, 5], [5, 0, 0]]), [])

    def test_payers_and_receivers_in_ascending_order(self):
        owed = empty_table(5)
        owed[4][0] = 7
        owed[1][2] = 5
        owed[3][0] = 2
        self.assertEqual(compress(owed), [(1, 0, 5), (3, 0, 2), (4, 0, 2), (4, 2, 5)])

    def test_payer_and_receiver_are_done_at_once(self):
        owed = empty_table(4)
        owed[0][1] = 5
        owed[2][3] = 5
        self.assertEqual(compress(owed), [(0, 1, 5), (2, 3, 5)])

    def test_one_payer_and_many_receivers(self):
        self.assertEqual(compress([[0, 1, 2, 3]] + [[0] * 4] * 3), [(0, 1, 1), (0, 2, 2), (0, 3, 3)])

    def test_many_payers_and_one_receiver(self):
        self.assertEqual(compress([[0, 0, 0], [4, 0, 0], [9, 0, 0]]), [(1, 0, 4), (2, 0, 9)])

    def test_the_greatest_amounts(self):
        owed = empty_table(13)
        for debtor in range(12):
            owed[debtor][12] = MOST
        self.assertEqual(compress(owed), [(debtor, 12, MOST) for debtor in range(12)])
        owed = empty_table(13)
        owed[0] = [0] + [MOST] * 12
        self.assertEqual(compress(owed), [(0, creditor, MOST) for creditor in range(1, 13)])

    def test_as_the_words_say(self):
        draw = random.Random(4)
        for _ in range(150):
            owed = drawn_table(draw, draw.randint(1, 13), draw.choice([1, 4, 20]), draw.choice([0.1, 0.4, 1]))
            before = copy.deepcopy(owed)
            self.assertEqual(compress(owed), compress_by_the_words(owed))
            self.assertEqual(owed, before)

    def test_each_house_gets_its_net_amount_by_the_smallest_sum(self):
        for owed in drawn_tables(5, 60):
            amounts = [0] * len(owed)
            for payer, receiver, amount in compress(owed):
                self.assertGreater(amount, 0)
                amounts[payer] -= amount
                amounts[receiver] += amount
            self.assertEqual(amounts, nets_by_the_words(owed))
            least = sum(amount for amount in amounts if amount > 0)
            self.assertEqual(sum(amount for _, _, amount in compress(owed)), least)


class UnwindTest(BourseCase):
    def check(self, owed):
        """The result of unwind keeps all promises of point 6.7. Returns the debts that remain."""
        before = copy.deepcopy(owed)
        debts, order = unwind(owed)
        self.assertEqual(owed, before)
        self.assertEqual(sorted(order), list(range(len(owed))))
        # What is taken off are rings alone if nobody's net amount has changed.
        self.assertEqual(nets_by_the_words(debts), nets_by_the_words(owed))
        for debtor, row in enumerate(debts):
            self.assertEqual(len(row), len(owed))
            for creditor, debt in enumerate(row):
                self.assertTrue(0 <= debt <= owed[debtor][creditor])
                if debt > 0:
                    self.assertLess(order.index(debtor), order.index(creditor))
        return debts

    def test_the_example(self):
        self.assertEqual(unwind([[0, 5, 0], [0, 0, 5], [2, 0, 0]]), ([[0, 3, 0], [0, 0, 3], [0, 0, 0]], [0, 1, 2]))

    def test_one_house(self):
        self.assertEqual(unwind([[0]]), ([[0]], [0]))

    def test_debts_without_a_ring_stay(self):
        chain = [[0, 0, 0, 0], [9, 0, 0, 0], [4, 3, 0, 0], [0, 2, 1, 0]]
        self.assertEqual(unwind(chain), (chain, [3, 2, 1, 0]))
        draw = random.Random(6)
        for _ in range(60):
            houses = draw.randint(1, 13)
            places = draw.sample(range(houses), houses)
            owed = drawn_table(draw, houses, MOST, 0.6)
            for debtor in range(houses):
                for creditor in range(houses):
                    if places[debtor] > places[creditor]:
                        owed[debtor][creditor] = 0
            self.assertEqual(self.check(owed), owed)

    def test_rings_of_each_length(self):
        draw = random.Random(7)
        for length in range(2, 14):
            for houses in range(length, 14):
                ring = draw.sample(range(houses), length)
                owed = empty_table(houses)
                for at, debtor in enumerate(ring):
                    owed[debtor][ring[at - 1]] = MOST - at
                debts = self.check(owed)
                least = MOST - length + 1
                expected = [[max(0, debt - least) for debt in row] for row in owed]
                self.assertEqual(debts, expected)

    def test_a_ring_of_equal_debts_vanishes(self):
        for houses in range(2, 14):
            owed = empty_table(houses)
            for debtor in range(houses):
                owed[debtor][debtor - 1] = 5
            self.assertEqual(self.check(owed), empty_table(houses))

    def test_two_rings_apart(self):
        owed = empty_table(6)
        owed[0][1], owed[1][0] = 5, 3
        owed[3][4], owed[4][5], owed[5][3] = 1, 2, 3
        expected = empty_table(6)
        expected[0][1], expected[4][5], expected[5][3] = 2, 1, 2
        self.assertEqual(self.check(owed), expected)

    def test_debts_into_a_ring_and_out_of_it(self):
        owed = empty_table(5)
        owed[4][1] = 7
        owed[1][2], owed[2][3], owed[3][1] = 2, 4, 3
        owed[3][0] = 6
        expected = empty_table(5)
        expected[4][1], expected[2][3], expected[3][1], expected[3][0] = 7, 2, 1, 6
        self.assertEqual(self.check(owed), expected)

    def test_drawn_tables(self):
        for owed in drawn_tables(9, 150):
            debts = self.check(owed)
            self.assertEqual(unwind(debts)[0], debts)

    def test_all_owe_all(self):
        draw = random.Random(10)
        for houses in range(1, 14):
            self.check(drawn_table(draw, houses, 1, 1))
            self.check(drawn_table(draw, houses, MOST, 1))

    def test_the_table_is_a_new_one(self):
        owed = [[0, 7], [0, 0]]
        debts, order = unwind(owed)
        debts[0][1] = 9
        order.clear()
        self.assertEqual(owed, [[0, 7], [0, 0]])


if __name__ == "__main__":
    unittest.main()
