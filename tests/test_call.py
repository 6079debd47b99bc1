"""Points 4.1 to 4.6: the price of a call, its trades, and what is left."""

import copy
import random
import unittest

from fairbourse.call import call_price, uncross
from fairbourse.errors import InvalidOrder
from support import BourseCase

TOP = 1000000


def call(*rows):
    """Orders of a call from rows (side, price, quantity), with the numbers 1, 2, 3 and so on."""
    return [(number, "house", *row) for number, row in enumerate(rows, start=1)]


def accepting(orders, side, price):
    """The orders of a side that accept a price, by point 3.6."""
    rows = [row for row in orders if row[2] == side]
    if side == "buy":
        return [row for row in rows if row[3] is None or price <= row[3]]
    return [row for row in rows if row[3] is None or price >= row[3]]


def interest(orders, side, price):
    return sum(row[4] for row in accepting(orders, side, price))


def price_by_the_words(orders, reference):
    """Points 4.2 and 4.3, with a look at each integer."""
    prices = [row[3] for row in orders if row[3] is not None] + [reference]
    best = None
    for price in range(min(prices), max(prices) + 1):
        bought, sold = interest(orders, "buy", price), interest(orders, "sell", price)
        merit = (min(bought, sold), -abs(bought - sold), -abs(price - reference), -price)
        if best is None or merit > best[0]:
            best = (merit, price)
    return best[1], best[0][0]


def service(orders, side, price):
    """Point 4.4: the orders that are served, in their order, once for each unit."""
    rows = accepting(orders, side, price)
    market = [row for row in rows if row[3] is None]
    priced = [row for row in rows if row[3] is not None]
    better = sorted({row[3] for row in priced}, reverse=side == "buy")
    queue = market + [row for price in better for row in priced if row[3] == price]
    return [row[0] for row in queue for _ in range(row[4])]


def uncross_by_the_words(orders, reference):
    """Points 4.4 to 4.6, unit by unit."""
    price, volume = price_by_the_words(orders, reference)
    units = list(zip(service(orders, "buy", price)[:volume], service(orders, "sell", price)[:volume]))
    trades = []
    for pair in units:
        if not trades or trades[-1][0] != pair:
            trades.append([pair, 0])
        trades[-1][1] += 1
    left = []
    for number, house, side, limit, quantity in orders:
        rest = quantity - sum(1 for pair in units if number in pair)
        if limit is not None and rest > 0:
            left.append((number, house, side, limit, rest))
    return price, [(*pair, quantity) for pair, quantity in trades], left


def drawn_call(draw, most_price, most_quantity):
    orders = []
    numbers = draw.sample(range(1, 100), draw.randint(0, 9))
    middle = draw.randint(1, most_price)
    for number in numbers:
        price = draw.choice([None, middle, draw.randint(1, most_price), draw.randint(1, most_price)])
        side = draw.choice(["buy", "sell"])
        orders.append((number, draw.choice("abc"), side, price, draw.randint(1, most_quantity)))
    return orders, draw.randint(1, most_price)


class CallPriceTest(BourseCase):
    def price(self, reference, *rows):
        return call_price(call(*rows), reference)

    def test_the_greatest_volume(self):
        rows = [("buy", 102, 30), ("sell", 100, 20), ("sell", 102, 20)]
        self.assertEqual(self.price(101, *rows), (102, 30))
        self.assertEqual(self.price(500, *rows), (102, 30))

    def test_volume_goes_before_surplus(self):
        # At 100 the surplus is 0 and the volume 5; at 101 the volume is 6 and the surplus 50.
        rows = [("buy", 101, 6), ("sell", 100, 5), ("sell", 101, 51)]
        self.assertEqual(self.price(100, *rows), (101, 6))

    def test_the_least_surplus(self):
        rows = [("buy", 110, 10), ("buy", 100, 10), ("sell", 95, 10)]
        # Up to 100 the surplus is 10, from 101 to 110 it is 0.
        self.assertEqual(self.price(100, *rows), (101, 10))
        self.assertEqual(self.price(1, *rows), (101, 10))
        self.assertEqual(self.price(104, *rows), (104, 10))
        self.assertEqual(self.price(111, *rows), (110, 10))

    def test_the_least_surplus_below_a_sell_order(self):
        rows = [("sell", 90, 10), ("sell", 100, 10), ("buy", 105, 10)]
        # From 100 on the surplus is 10, from 90 to 99 it is 0.
        self.assertEqual(self.price(100, *rows), (99, 10))
        self.assertEqual(self.price(103, *rows), (99, 10))
        self.assertEqual(self.price(93, *rows), (93, 10))
        self.assertEqual(self.price(89, *rows), (90, 10))

    def test_surplus_goes_before_nearness(self):
        rows = [("buy", 100, 5), ("sell", 100, 5), ("buy", 99, 1), ("sell", 101, 1)]
        self.assertEqual(self.price(TOP, *rows), (100, 5))
        self.assertEqual(self.price(1, *rows), (100, 5))

    def test_the_surplus_has_no_sign(self):
        # Up to 100 buyers have 5 or 2 too many, from 101 on sellers have 2 or 5 too many.
        self.assertEqual(self.price(100, ("buy", 100, 5), ("buy", 200, 5), ("sell", 50, 5), ("sell", 101, 2)), (101, 5))
        self.assertEqual(self.price(101, ("buy", 100, 2), ("buy", 200, 5), ("sell", 50, 5), ("sell", 101, 5)), (100, 5))

    def test_the_nearest_to_the_reference_price(self):
        rows = [("buy", 110, 10), ("sell", 100, 10)]
        expected = {1: 100, 99: 100, 100: 100, 101: 101, 105: 105, 109: 109, 110: 110, 111: 110, TOP: 110}
        for reference, price in expected.items():
            self.assertEqual(self.price(reference, *rows), (price, 10))

    def test_no_orders(self):
        self.assertEqual(call_price([], 77), (77, 0))
        self.assertEqual(call_price([], 1), (1, 0))
        self.assertEqual(call_price([], TOP), (TOP, 0))

    def test_only_market_orders(self):
        self.assertEqual(self.price(77, ("buy", None, 5), ("sell", None, 8)), (77, 5))
        self.assertEqual(self.price(77, ("buy", None, 5)), (77, 0))

    def test_one_side_empty(self):
        # The volume is 0 everywhere, so the price with the least interest of the other side is sought.
        self.assertEqual(self.price(100, ("buy", 90, 5), ("buy", 80, 5)), (100, 0))
        self.assertEqual(self.price(80, ("buy", 90, 5), ("buy", 100, 5)), (91, 0))
        self.assertEqual(self.price(80, ("buy", 90, 5)), (80, 0))
        self.assertEqual(self.price(100, ("sell", 90, 5), ("sell", 95, 5)), (94, 0))
        self.assertEqual(self.price(100, ("sell", 90, 5)), (100, 0))
        self.assertEqual(self.price(80, ("sell", 90, 5), ("sell", 95, 5)), (80, 0))

    def test_orders_that_do_not_meet(self):
        self.assertEqual(self.price(100, ("buy", 99, 5), ("sell", 101, 5)), (100, 0))
        self.assertEqual(self.price(99, ("buy", 99, 5), ("sell", 103, 5)), (100, 0))
        self.assertEqual(self.price(200, ("buy", 99, 5), ("sell", 103, 5)), (102, 0))

    def test_market_orders_count_at_each_price(self):
        self.assertEqual(self.price(100, ("buy", None, 5), ("sell", 120, 5)), (120, 5))
        self.assertEqual(self.price(100, ("sell", None, 5), ("buy", 80, 5)), (80, 5))
        self.assertEqual(self.price(100, ("sell", None, 5), ("sell", 90, 7), ("buy", 95, 9)), (95, 9))

    def test_the_ends_of_the_prices(self):
        self.assertEqual(self.price(1, ("buy", 1, TOP), ("sell", 1, TOP)), (1, TOP))
        self.assertEqual(self.price(TOP, ("buy", TOP, TOP), ("sell", TOP, 1)), (TOP, 1))
        self.assertEqual(self.price(500, ("buy", TOP, 1), ("sell", 1, TOP)), (500, 1))
        self.assertEqual(self.price(1, ("buy", 1, 1), ("buy", TOP, 2), ("sell", 1, 2)), (2, 2))
        self.assertEqual(self.price(TOP, ("sell", TOP, 1), ("sell", 1, 2), ("buy", TOP, 2)), (TOP - 1, 2))

    def test_the_price_stays_between_the_least_and_the_greatest_one(self):
        # A surplus of 0 would stand one above the greatest price and one below the least one.
        self.assertEqual(self.price(100, ("buy", 100, 5)), (100, 0))
        self.assertEqual(self.price(100, ("sell", 100, 5)), (100, 0))

    def test_as_the_words_say(self):
        draw = random.Random(4)
        for most_price, most_quantity, rounds in ((6, 3, 1500), (12, 9, 1500), (12, 2, 1500), (400, 50, 300)):
            for _ in range(rounds):
                orders, reference = drawn_call(draw, most_price, most_quantity)
                self.assertEqual(call_price(orders, reference), price_by_the_words(orders, reference))


class UncrossTest(BourseCase):
    def test_the_example(self):
        orders = [(1, "alder", "buy", 102, 30), (2, "birch", "sell", 100, 20), (3, "cedar", "sell", 102, 20)]
        expected = (102, [(1, 2, 20), (1, 3, 10)], [(3, "cedar", "sell", 102, 10)])
        self.assertEqual(uncross(orders, 101), expected)

    def test_market_orders_are_served_first_then_better_prices(self):
        orders = call(("buy", 100, 5), ("buy", 103, 5), ("buy", None, 5), ("buy", 102, 5), ("sell", None, 20))
        price, trades, left = uncross(orders, 100)
        self.assertEqual((price, trades, left), (100, [(3, 5, 5), (2, 5, 5), (4, 5, 5), (1, 5, 5)], []))
        orders = call(("sell", 100, 5), ("sell", 97, 5), ("sell", None, 5), ("sell", 98, 5), ("buy", None, 18))
        price, trades, left = uncross(orders, 100)
        self.assertEqual((price, trades), (100, [(5, 3, 5), (5, 2, 5), (5, 4, 5), (5, 1, 3)]))
        self.assertEqual(left, [(1, "house", "sell", 100, 2)])

    def test_orders_that_are_alike_are_served_as_they_stand_in_the_list(self):
        orders = [(9, "a", "buy", 100, 4), (2, "b", "buy", 100, 4), (5, "c", "sell", 100, 6), (1, "d", "buy", 100, 4)]
        expected = (100, [(9, 5, 4), (2, 5, 2)], [(2, "b", "buy", 100, 2), (1, "d", "buy", 100, 4)])
        self.assertEqual(uncross(orders, 100), expected)
        orders = [(9, "a", "sell", None, 4), (2, "b", "sell", None, 4), (5, "c", "buy", 100, 6)]
        self.assertEqual(uncross(orders, 100), (100, [(5, 9, 4), (5, 2, 2)], []))

    def test_the_pairs(self):
        orders = call(("buy", 105, 10), ("buy", 104, 10), ("sell", 95, 5), ("sell", 96, 8), ("sell", 97, 7))
        expected = [(1, 3, 5), (1, 4, 5), (2, 4, 3), (2, 5, 7)]
        self.assertEqual(uncross(orders, 100), (100, expected, []))

    def test_what_is_left_stays_in_the_order_of_the_list(self):
        orders = call(
            ("sell", 120, 3), ("buy", 90, 2), ("buy", 100, 7), ("sell", 100, 4), ("buy", None, 1), ("sell", 110, 1),
            ("sell", 101, 6),
        )
        price, trades, left = uncross(orders, 100)
        self.assertEqual((price, trades), (100, [(5, 4, 1), (3, 4, 3)]))
        self.assertEqual(left, [
            (1, "house", "sell", 120, 3), (2, "house", "buy", 90, 2), (3, "house", "buy", 100, 4),
            (6, "house", "sell", 110, 1), (7, "house", "sell", 101, 6),
        ])

    def test_market_orders_are_dropped(self):
        self.assertEqual(uncross(call(("buy", None, 5)), 50), (50, [], []))
        self.assertEqual(uncross(call(("buy", None, 5), ("sell", None, 8)), 50), (50, [(1, 2, 5)], []))

    def test_no_orders(self):
        self.assertEqual(uncross([], 50), (50, [], []))

    def test_no_volume(self):
        orders = call(("sell", 101, 5), ("buy", 99, 5))
        self.assertEqual(uncross(orders, 100), (100, [], orders))

    def test_a_house_can_trade_with_itself(self):
        orders = [(1, "a", "buy", 10, 5), (2, "a", "sell", 10, 5)]
        self.assertEqual(uncross(orders, 10), (10, [(1, 2, 5)], []))

    def test_the_orders_stay_as_they_were(self):
        draw = random.Random(6)
        for _ in range(50):
            orders, reference = drawn_call(draw, 9, 9)
            before = copy.deepcopy(orders)
            call_price(orders, reference)
            uncross(orders, reference)
            self.assertEqual(orders, before)

    def test_the_lists_are_new_ones(self):
        orders = call(("sell", 101, 5), ("buy", 99, 5))
        left = uncross(orders, 100)[2]
        left.clear()
        self.assertEqual(len(orders), 2)

    def test_as_the_words_say(self):
        draw = random.Random(5)
        for most_price, most_quantity, rounds in ((6, 3, 800), (12, 9, 800), (300, 40, 100)):
            for _ in range(rounds):
                orders, reference = drawn_call(draw, most_price, most_quantity)
                self.assertEqual(uncross(orders, reference), uncross_by_the_words(orders, reference))

    def test_nothing_that_is_left_can_trade(self):
        draw = random.Random(7)
        for _ in range(800):
            orders, reference = drawn_call(draw, 20, 20)
            left = uncross(orders, reference)[2]
            bids = [row[3] for row in left if row[2] == "buy"]
            asks = [row[3] for row in left if row[2] == "sell"]
            self.assertTrue(not bids or not asks or max(bids) < min(asks))

    def test_a_call_of_many_orders(self):
        rows = [("buy", 1 + at * 37 % TOP, 1 + at % 1000) for at in range(3000)]
        rows += [("sell", 1 + at * 41 % TOP, 1 + at % 900) for at in range(3000)]
        orders = call(*rows)
        price, trades, left = uncross(orders, 50000)
        self.assertEqual(price, price_among_candidates(orders, 50000))
        traded = sum(quantity for _, _, quantity in trades)
        self.assertEqual(traded, min(interest(orders, "buy", price), interest(orders, "sell", price)))
        self.assertEqual(sum(row[4] for row in left), sum(row[4] for row in orders) - 2 * traded)


def price_among_candidates(orders, reference):
    """The price of a call whose interests cross in one narrow place, found by a search for that place."""
    low, high = 1, TOP
    while low < high:
        middle = (low + high) // 2
        if interest(orders, "sell", middle) < interest(orders, "buy", middle):
            low = middle + 1
        else:
            high = middle
    near = [price for price in range(low - 60, low + 60)]
    return min(near, key=lambda price: (
        -min(interest(orders, "buy", price), interest(orders, "sell", price)),
        abs(interest(orders, "buy", price) - interest(orders, "sell", price)),
        abs(price - reference),
    ))


class InvalidCallTest(BourseCase):
    GOOD = (1, "a", "buy", 100, 5)

    def refused(self, orders, reference):
        for function in (call_price, uncross):
            before = copy.deepcopy(orders)
            self.raises(InvalidOrder, function, orders, reference)
            self.assertEqual(orders, before)

    def refused_anywhere(self, bad):
        others = [(1, "a", "buy", 100, 5), (2, "b", "sell", None, 5)]
        for at in range(3):
            self.refused(others[:at] + [bad] + others[at:], 100)

    def test_a_bad_side(self):
        for side in ("", "BUY", "Sell", "buy ", "both", None, 1, True):
            self.refused_anywhere((3, "c", side, 100, 5))

    def test_a_bad_price(self):
        for side in ("buy", "sell"):
            for price in (0, -1, TOP + 1, -TOP, 10 ** 30, True, False, "100"):
                self.refused_anywhere((3, "c", side, price, 5))

    def test_a_bad_quantity(self):
        for side in ("buy", "sell"):
            for price in (100, None):
                for quantity in (0, -1, TOP + 1, -5, 10 ** 30, True, False, None, "5"):
                    self.refused_anywhere((3, "c", side, price, quantity))

    def test_a_bad_reference_price(self):
        for reference in (0, -1, TOP + 1, 10 ** 30, True, False, None):
            self.refused([], reference)
            self.refused([self.GOOD], reference)
            self.refused([(1, "a", "buy", None, 5), (2, "b", "sell", None, 5)], reference)

    def test_the_bounds_are_good(self):
        for number in (1, TOP):
            for side in ("buy", "sell"):
                self.assertEqual(call_price([(1, "a", side, None, number)], number), (number, 0))
                self.assertEqual(call_price([(1, "a", side, number, number)], number), (number, 0))
                self.assertEqual(uncross([(1, "a", side, None, number)], number), (number, [], []))

    def test_a_call_does_not_look_at_the_houses(self):
        orders = [(1, "", "buy", 100, 5), (2, "", "sell", 100, 5)]
        self.assertEqual(uncross(orders, 100), (100, [(1, 2, 5)], []))


if __name__ == "__main__":
    unittest.main()
