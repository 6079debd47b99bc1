"""Point 8.3 for rings of debts that lose little in each round, so that there are many rounds."""

import random
import unittest

from fairbourse.money import split
from fairbourse.settle import clearing
from support import BourseCase
from tables import MOST_DEBT, MOST_HELD, empty_table, greatest_by_rounds, round_by_the_words


def ring_of(draw, houses, length, debt, leaks):
    """A table in which the first houses owe something in a ring, and little to the houses behind them."""
    owed = empty_table(houses)
    for house in range(length):
        owed[house][(house + 1) % length] = debt - draw.choice([0, 0, draw.randint(0, debt // 10)])
    for _ in range(leaks):
        owed[draw.randrange(length)][draw.randint(length, houses - 1)] = draw.randint(1, max(1, debt // draw.choice([9, 99, 999])))
    return owed


def mixed(draw, owed, cash):
    """The same debts and the same cash with the houses in another order."""
    places = draw.sample(range(len(owed)), len(owed))
    return [[owed[a][b] for b in places] for a in places], [cash[a] for a in places]


def greatest_in_a_ring(owed, cash, length):
    """The greatest payments if the first houses stand in one ring and the others owe nothing.

    What comes back to the first house from what it pays grows by at most a cent with each cent that it pays. So it can
    pay each amount up to the greatest one that it can pay, and halving finds that one.
    """
    def around(amount):
        pay = [amount] + [0] * (len(owed) - 1)
        for house in range(1, length):
            income = split(pay[house - 1], owed[house - 1])[house]
            pay[house] = min(sum(owed[house]), cash[house] + income)
        return pay, min(sum(owed[0]), cash[0] + split(pay[length - 1], owed[length - 1])[0])

    low, high = 0, sum(owed[0])
    while low < high:
        middle = (low + high + 1) // 2
        if around(middle)[1] >= middle:
            low = middle
        else:
            high = middle - 1
    return around(low)[0]


class RingsTest(BourseCase):
    def stands(self, owed, cash):
        pay = clearing(owed, cash)
        self.assertEqual(round_by_the_words(owed, cash, pay), pay)
        return pay

    def test_a_ring_that_loses_a_millionth_in_each_round(self):
        owed = [[0, MOST_DEBT, 10 ** 9], [MOST_DEBT, 0, 0], [0, 0, 0]]
        # The third house gets nothing of 1000000 cents, and it gets a cent of 1000001.
        self.assertEqual(split(10 ** 6, owed[0]), [0, 10 ** 6, 0])
        self.assertEqual(split(10 ** 6 + 1, owed[0]), [0, 10 ** 6, 1])
        self.assertEqual(self.stands(owed, [0, 0, 0]), [10 ** 6, 10 ** 6, 0])

    def test_a_ring_that_loses_still_less(self):
        owed = [[0, MOST_DEBT, 10 ** 5], [MOST_DEBT, 0, 0], [0, 0, 0]]
        self.assertEqual(self.stands(owed, [0, 0, 0]), [10 ** 10, 10 ** 10, 0])
        owed = [[0, MOST_DEBT, 1], [MOST_DEBT, 0, 0], [0, 0, 0]]
        self.assertEqual(self.stands(owed, [0, 0, 0]), [MOST_DEBT, MOST_DEBT, 0])

    def test_cash_makes_up_for_what_is_lost(self):
        owed = [[0, 3 * 10 ** 9, 0], [3 * 10 ** 9, 0, 9999], [0, 0, 0]]
        self.assertEqual(self.stands(owed, [0, 9999, 0]), [3 * 10 ** 9, 3 * 10 ** 9 + 9999, 0])
        for cash in (0, 1, 5000, 9998):
            pay = self.stands(owed, [0, cash, 0])
            self.assertEqual(pay, greatest_in_a_ring(owed, [0, cash, 0], 2))
            self.assertEqual(split(pay[1], owed[1])[2], cash)

    def test_a_ring_of_13_houses_at_the_ends_of_the_ranges(self):
        owed = empty_table(13)
        for house in range(12):
            owed[house][(house + 1) % 12] = MOST_DEBT
        self.assertEqual(self.stands(owed, [0] * 13), [MOST_DEBT] * 12 + [0])
        owed[5][12] = 10 ** 7
        self.assertEqual(self.stands(owed, [0] * 13), greatest_in_a_ring(owed, [0] * 13, 12))
        cash = [0] * 12 + [MOST_HELD]
        self.assertEqual(self.stands(owed, cash), greatest_in_a_ring(owed, cash, 12))

    def test_rings_with_large_debts(self):
        draw = random.Random(1)
        for _ in range(50):
            length = draw.randint(2, 11)
            houses = draw.randint(length + 1, 13)
            owed = ring_of(draw, houses, length, 10 ** draw.randint(3, 15), draw.randint(1, 4))
            if draw.random() < 0.5:
                for row in owed:
                    row[-1] = min(row[-1], draw.choice([1, 10 ** 4, 10 ** 8]))
            cash = [draw.choice([0, 0, 0, 1, draw.randint(0, 10 ** draw.randint(1, 9))]) for _ in range(houses)]
            self.assertEqual(self.stands(owed, cash), greatest_in_a_ring(owed, cash, length))
            self.stands(*mixed(draw, owed, cash))

    def test_rings_with_many_rounds(self):
        draw = random.Random(2)
        for _ in range(50):
            length = draw.randint(2, 5)
            houses = draw.randint(length + 1, 7)
            owed = ring_of(draw, houses, length, draw.choice([200, 2000]), draw.randint(1, 3))
            cash = [draw.choice([0, 0, 0, draw.randint(0, 20)]) for _ in range(houses)]
            owed, cash = mixed(draw, owed, cash)
            self.assertEqual(self.stands(owed, cash), greatest_by_rounds(owed, cash))

    def test_several_rings_that_owe_each_other_little(self):
        draw = random.Random(3)
        for _ in range(50):
            first, second = draw.randint(2, 3), draw.randint(2, 3)
            houses = first + second + draw.randint(0, 2)
            owed = empty_table(houses)
            debt = draw.choice([50, 500, 2000])
            for house in range(first):
                owed[house][(house + 1) % first] = debt - draw.randint(0, 3)
            for house in range(second):
                owed[first + house][first + (house + 1) % second] = debt - draw.randint(0, 3)
            for _ in range(draw.randint(1, 5)):
                debtor, creditor = draw.sample(range(houses), 2)
                if owed[debtor][creditor] == 0:
                    owed[debtor][creditor] = draw.randint(1, max(1, debt // 50))
            cash = [draw.choice([0, 0, 0, 1, 2]) for _ in range(houses)]
            owed, cash = mixed(draw, owed, cash)
            self.assertEqual(self.stands(owed, cash), greatest_by_rounds(owed, cash))

    def test_tables_with_debts_of_all_sizes(self):
        draw = random.Random(4)
        for _ in range(40):
            houses = draw.randint(2, 13)
            owed = [[0 if a == b or draw.random() < 0.5 else int(10 ** draw.uniform(0, 15)) for b in range(houses)] for a in range(houses)]
            cash = [draw.choice([0, int(10 ** draw.uniform(0, 12))]) for _ in range(houses)]
            self.stands(owed, cash)


if __name__ == "__main__":
    unittest.main()
