"""Points 11.4 and 11.5 as far as they speak of a market: phases, the call, the book, closing, and the checks."""

import random
import unittest

from fairbourse.book import Book
from fairbourse.call import uncross
from fairbourse.errors import InvalidOrder, NotOwner, OutOfBand, UnknownOrder, WrongPhase
from fairbourse.market import Market
from support import BourseCase, all_told, snapshot

TOP = 1000000


def everything(market):
    """All that a market answers."""
    fields = (market.tick, market.lot, market.band, market.reference, market.phase)
    return fields, market.queue(), market.closing_reference(), snapshot(market.book)


def wide_market(reference=100):
    """A market in which each price and each quantity is good."""
    return Market(1, 1, TOP, reference)


def opened_market(reference=100):
    market = wide_market(reference)
    market.start()
    return market


class MarketCase(BourseCase):
    def refused(self, market, error, function, *args, **more):
        before = everything(market)
        self.raises(error, function, *args, **more)
        self.assertEqual(everything(market), before)


class NewMarketTest(MarketCase):
    def test_the_fields(self):
        market = Market(5, 10, 50, 200)
        self.assertEqual((market.tick, market.lot, market.band, market.reference), (5, 10, 50, 200))
        self.assertEqual(market.phase, "call")
        self.assertIs(type(market.book), Book)
        self.assertEqual(snapshot(market.book), snapshot(Book()))
        self.assertEqual(market.queue(), [])
        self.assertEqual(market.closing_reference(), 200)
        self.assertEqual(market.open_quantities("a", "buy"), [])

    def test_markets_share_nothing(self):
        first, second = wide_market(), wide_market()
        first.submit("a", "buy", 100, 5)
        self.assertEqual(second.queue(), [])
        self.assertEqual(second.submit("b", "buy", 100, 5)[0].number, 1)


class CallTest(MarketCase):
    def test_orders_are_collected_and_do_not_trade(self):
        market = wide_market()
        reports = market.submit("a", "buy", 105, 5) + market.submit("b", "sell", 95, 5)
        reports += market.submit("c", "sell", None, 7, kind="now") + market.submit("a", "sell", 105, 1, kind="rest", shown=0)
        self.assertEqual(all_told(reports), [
            (1, "a", "buy", [], [], 5), (2, "b", "sell", [], [], 5), (3, "c", "sell", [], [], 7), (4, "a", "sell", [], [], 1),
        ])
        self.assertEqual(market.queue(), [
            (1, "a", "buy", 105, 5), (2, "b", "sell", 95, 5), (3, "c", "sell", None, 7), (4, "a", "sell", 105, 1),
        ])
        self.assertEqual(snapshot(market.book), snapshot(Book()))
        self.assertEqual((market.phase, market.reference, market.closing_reference()), ("call", 100, 100))

    def test_an_order_with_an_error_gets_no_number(self):
        market = wide_market()
        market.submit("a", "buy", 105, 5)
        self.refused(market, InvalidOrder, market.submit, "a", "buy", 0, 5)
        self.assertEqual(market.submit("a", "buy", 105, 5)[0].number, 2)

    def test_cancelling(self):
        market = wide_market()
        for house in "abc":
            market.submit(house, "buy", 100, 5)
        market.submit("b", "sell", None, 8, kind="now")
        self.assertEqual(market.cancel(2, "b"), 5)
        self.assertEqual(market.cancel(4, "b"), 8)
        self.assertEqual(market.queue(), [(1, "a", "buy", 100, 5), (3, "c", "buy", 100, 5)])
        self.assertEqual(market.submit("d", "buy", 100, 5)[0].number, 5)
        self.assertEqual([row[0] for row in market.queue()], [1, 3, 5])

    def test_cancelling_what_is_not_there(self):
        market = wide_market()
        market.submit("a", "buy", 100, 5)
        for number in (0, 2, -1):
            self.refused(market, UnknownOrder, market.cancel, number, "a")
            self.refused(market, UnknownOrder, market.cancel, number, "b")
        self.refused(market, NotOwner, market.cancel, 1, "b")
        market.cancel(1, "a")
        self.refused(market, UnknownOrder, market.cancel, 1, "a")

    def test_the_queue_is_a_new_list(self):
        market = wide_market()
        market.submit("a", "buy", 100, 5)
        market.queue().clear()
        self.assertEqual(len(market.queue()), 1)


class StartTest(MarketCase):
    def test_the_call_trades(self):
        market = wide_market()
        market.submit("a", "buy", 102, 30)
        market.submit("b", "sell", 100, 20)
        market.submit("c", "sell", 102, 20)
        self.assertEqual(market.start(), (102, [("a", "b", 20), ("a", "c", 10)]))
        self.assertEqual((market.phase, market.reference, market.book.last), ("open", 102, 102))
        self.assertEqual(market.queue(), [])
        self.assertEqual(market.book.orders("sell"), [(3, "c", 102, 10, 10)])
        self.assertEqual(market.book.orders("buy"), [])
        self.assertEqual(market.closing_reference(), 102)

    def test_a_call_without_a_trade(self):
        market = wide_market()
        market.submit("a", "buy", 98, 30)
        market.submit("b", "sell", 105, 20)
        market.submit("b", "sell", 104, 20)
        self.assertEqual(market.start(), (100, []))
        self.assertEqual((market.phase, market.reference, market.book.last), ("open", 100, None))
        self.assertEqual(market.book.orders("buy"), [(1, "a", 98, 30, 30)])
        self.assertEqual(market.book.orders("sell"), [(3, "b", 104, 20, 20), (2, "b", 105, 20, 20)])

    def test_a_call_price_without_a_trade_is_no_reference_price(self):
        market = wide_market(80)
        market.submit("a", "buy", 90, 5)
        market.submit("a", "buy", 100, 5)
        self.assertEqual(market.start(), (91, []))
        self.assertEqual((market.reference, market.book.last, market.closing_reference()), (80, None, 80))

    def test_a_trade_of_a_house_with_itself_counts(self):
        market = wide_market()
        market.submit("a", "buy", 110, 5)
        market.submit("a", "sell", 105, 5)
        self.assertEqual(market.start(), (105, [("a", "a", 5)]))
        self.assertEqual((market.reference, market.book.last), (105, 105))

    def test_an_empty_call(self):
        market = wide_market()
        self.assertEqual(market.start(), (100, []))
        self.assertEqual(market.phase, "open")
        self.assertEqual(market.submit("a", "buy", 100, 5)[0].number, 1)

    def test_the_numbers_go_on(self):
        market = wide_market()
        for _ in range(3):
            market.submit("a", "buy", 100, 5)
        market.cancel(3, "a")
        market.submit("b", "buy", None, 5, kind="now")
        market.cancel(4, "b")
        market.start()
        self.assertEqual(market.submit("a", "buy", 90, 5)[0].number, 5)
        self.assertEqual(market.submit_stop("a", "sell", 50, None, 5)[0].number, 6)

    def test_what_is_left_rests_by_number(self):
        market = wide_market()
        market.submit("a", "buy", 100, 5)
        market.submit("b", "buy", 101, 6)
        market.submit("c", "buy", 100, 7)
        market.submit("d", "sell", None, 7, kind="now")
        market.submit("e", "buy", 100, 8)
        market.cancel(1, "a")
        market.submit("a", "buy", 100, 9)
        self.assertEqual(market.start(), (100, [("b", "d", 6), ("c", "d", 1)]))
        self.assertEqual(market.book.orders("buy"), [(3, "c", 100, 6, 6), (5, "e", 100, 8, 8), (6, "a", 100, 9, 9)])

    def test_market_orders_are_dropped(self):
        market = wide_market()
        market.submit("a", "buy", None, 5, kind="now")
        self.assertEqual(market.start(), (100, []))
        self.assertEqual(market.open_quantities("a", "buy"), [])
        self.assertEqual(market.book.orders("buy"), [])

    def test_starting_twice(self):
        market = opened_market()
        market.submit("a", "buy", 100, 5)
        market.submit_stop("a", "sell", 100, None, 5)
        self.refused(market, WrongPhase, market.start)

    def test_as_the_call_says(self):
        draw = random.Random(11)
        for _ in range(300):
            market = wide_market(draw.randint(1, 12))
            for _ in range(draw.randint(0, 9)):
                price = draw.choice([None, draw.randint(1, 12), draw.randint(1, 12)])
                kind = "now" if price is None else "rest"
                market.submit(draw.choice("abc"), draw.choice(["buy", "sell"]), price, draw.randint(1, 9), kind=kind)
            queue, reference = market.queue(), market.reference
            house = {row[0]: row[1] for row in queue}
            price, trades, left = uncross(queue, reference)
            self.assertEqual(market.start(), (price, [(house[buy], house[sell], units) for buy, sell, units in trades]))
            rows = [(row[0], row[1], side, row[2], row[3]) for side in ("buy", "sell") for row in market.book.orders(side)]
            self.assertEqual(sorted(rows), left)
            self.assertEqual(market.reference, price if trades else reference)
            self.assertEqual(market.book.last, price if trades else None)


class OpenTest(MarketCase):
    def test_orders_enter_the_book(self):
        market = opened_market()
        market.submit("a", "sell", 101, 30, shown=10)
        market.submit("b", "sell", 101, 10)
        reports = market.submit("c", "buy", 101, 25)
        self.assertEqual(reports[0].fills, [(1, "a", 101, 10), (2, "b", 101, 10), (1, "a", 101, 5)])
        self.assertEqual(market.submit("d", "buy", 101, 99, kind="all")[0].fills, [])
        self.assertEqual(market.submit("d", "buy", None, 99, kind="now")[0].fills, [(1, "a", 101, 5), (1, "a", 101, 10)])
        self.assertEqual(market.queue(), [])

    def test_stop_orders(self):
        market = opened_market()
        market.submit("a", "sell", 101, 5)
        self.assertEqual(all_told(market.submit_stop("b", "buy", 101, 90, 7)), [(2, "b", "buy", [], [], 0)])
        self.assertEqual(market.book.stops(), [(2, "b", "buy", 101, 90, 7)])
        reports = market.submit("c", "buy", None, 1, kind="now")
        self.assertEqual(all_told(reports), [(3, "c", "buy", [(1, "a", 101, 1)], [], 0), (2, "b", "buy", [], [], 7)])

    def test_the_last_price_of_the_call_triggers_stop_orders(self):
        market = wide_market()
        market.submit("a", "buy", 100, 5)
        market.submit("b", "sell", 100, 5)
        market.start()
        self.assertEqual(len(market.submit_stop("c", "buy", 100, 50, 1)), 2)
        self.assertEqual(len(market.submit_stop("c", "buy", 101, 50, 1)), 1)

    def test_cancelling(self):
        market = wide_market()
        market.submit("a", "buy", 100, 5)
        market.start()
        market.submit("b", "sell", 101, 6)
        market.submit_stop("c", "sell", 50, None, 7)
        for number in (1, 2, 3):
            self.refused(market, NotOwner, market.cancel, number, "d")
        self.assertEqual([market.cancel(1, "a"), market.cancel(2, "b"), market.cancel(3, "c")], [5, 6, 7])
        for number in (0, 1, 4):
            self.refused(market, UnknownOrder, market.cancel, number, "a")

    def test_the_closing_reference_follows_the_trades(self):
        market = opened_market()
        self.assertEqual(market.closing_reference(), 100)
        market.submit("a", "sell", 107, 5)
        self.assertEqual(market.closing_reference(), 100)
        market.submit("b", "buy", 120, 1)
        self.assertEqual(market.closing_reference(), 107)
        market.submit("c", "buy", 90, 1)
        market.submit("b", "sell", 90, 1)
        self.assertEqual(market.closing_reference(), 90)
        self.assertEqual(market.reference, 100)


class CloseTest(MarketCase):
    def test_all_orders_are_removed(self):
        market = opened_market()
        market.submit("a", "buy", 90, 5)
        market.submit("a", "sell", 110, 5)
        market.submit_stop("a", "sell", 50, None, 5)
        self.assertIsNone(market.close())
        self.assertEqual(everything(market), everything(wide_market()))
        self.assertEqual(market.open_quantities("a", "buy") + market.open_quantities("a", "sell"), [])

    def test_a_call_is_closed(self):
        market = wide_market()
        market.submit("a", "buy", 90, 5)
        market.close()
        self.assertEqual(everything(market), everything(wide_market()))
        self.assertEqual(market.submit("a", "buy", 90, 5)[0].number, 1)

    def test_the_last_price_becomes_the_reference_price(self):
        market = opened_market()
        market.submit("a", "buy", 90, 5)
        market.submit("b", "sell", 90, 5)
        market.close()
        self.assertEqual((market.reference, market.book.last, market.closing_reference()), (90, None, 90))
        market.close()
        self.assertEqual(market.reference, 90)

    def test_the_reference_price_stays_without_a_trade(self):
        market = opened_market()
        market.submit("a", "buy", 90, 5)
        market.close()
        self.assertEqual(market.reference, 100)

    def test_a_second_day(self):
        market = wide_market()
        market.submit("a", "buy", 104, 5)
        market.submit("b", "sell", 104, 5)
        market.start()
        market.close()
        self.assertEqual((market.reference, market.phase), (104, "call"))
        self.assertEqual(market.submit("a", "buy", 90, 5)[0].number, 1)
        self.assertEqual(market.submit("a", "buy", 91, 5)[0].number, 2)
        self.assertEqual(market.start(), (104, []))
        self.assertEqual(market.submit("a", "buy", 92, 5)[0].number, 3)

    def test_the_numbers_start_from_1_again_after_an_open_phase(self):
        market = opened_market()
        market.submit("a", "buy", 90, 5)
        market.close()
        self.assertEqual(market.submit("b", "sell", 95, 5)[0].number, 1)
        self.assertEqual(market.queue(), [(1, "b", "sell", 95, 5)])


class OpenQuantitiesTest(MarketCase):
    def test_the_call_by_numbers(self):
        market = wide_market()
        market.submit("a", "buy", 90, 5)
        market.submit("a", "buy", 95, 3)
        market.submit("b", "buy", 96, 8)
        market.submit("a", "sell", 97, 4)
        market.submit("a", "buy", None, 2, kind="now")
        self.assertEqual(market.open_quantities("a", "buy"), [5, 3, 2])
        self.assertEqual(market.open_quantities("a", "sell"), [4])
        self.assertEqual(market.open_quantities("b", "buy"), [8])
        self.assertEqual(market.open_quantities("b", "sell"), [])
        self.assertEqual(market.open_quantities("c", "buy"), [])

    def test_the_book_in_priority_then_the_stop_orders_by_numbers(self):
        market = opened_market()
        market.submit_stop("a", "buy", 200, None, 50)
        market.submit("a", "buy", 90, 5)
        market.submit("a", "buy", 95, 9, shown=3)
        market.submit("b", "buy", 96, 8)
        market.submit("a", "sell", 120, 4)
        market.submit("a", "sell", 110, 6)
        market.submit_stop("a", "sell", 50, 40, 60)
        market.submit_stop("b", "buy", 150, None, 80)
        market.submit_stop("a", "buy", 150, 155, 70)
        self.assertEqual(market.open_quantities("a", "buy"), [9, 5, 50, 70])
        self.assertEqual(market.open_quantities("a", "sell"), [6, 4, 60])
        self.assertEqual(market.open_quantities("b", "buy"), [8, 80])
        self.assertEqual(market.open_quantities("b", "sell"), [])

    def test_what_is_left_counts(self):
        market = opened_market()
        market.submit("a", "buy", 95, 9, shown=3)
        market.submit("b", "sell", 95, 4)
        self.assertEqual(market.open_quantities("a", "buy"), [5])

    def test_the_book_that_the_field_holds(self):
        market = wide_market()
        market.book.submit("a", "buy", 95, 9)
        market.book.submit_stop("a", "buy", 95, None, 7)
        self.assertEqual(market.open_quantities("a", "buy"), [9, 7])
        market.book.submit("b", "sell", 90, 9)
        self.assertEqual(market.closing_reference(), 95)


class CheckTest(MarketCase):
    def markets(self):
        """The same market in both phases."""
        call, opened = Market(5, 10, 50, 200), Market(5, 10, 50, 200)
        opened.start()
        return call, opened

    def refused_order(self, market, error, *args, **more):
        self.refused(market, error, market.submit, *args, **more)
        self.refused(market, error, market.check_new_order, *args, **more)

    def refused_stop(self, market, error, *args):
        self.refused(market, error, market.submit_stop, *args)
        self.refused(market, error, market.check_new_stop, *args)

    def test_checking_takes_no_order(self):
        for market in self.markets():
            before = everything(market)
            self.assertIsNone(market.check_new_order("a", "buy", 200, 10))
            self.assertEqual(everything(market), before)
        self.assertIsNone(market.check_new_stop("a", "buy", 200, 200, 10))
        self.assertEqual(everything(market), before)

    def test_the_parts_of_an_order(self):
        for market in self.markets():
            for parts in (
                ("", "buy", 200, 10), ("a", "bid", 200, 10), ("a", "buy", 0, 10), ("a", "buy", TOP + 5, 10),
                ("a", "buy", None, 10), ("a", "buy", 200, 0), ("a", "buy", 200, TOP + 10), ("a", "buy", 200, -10),
                ("a", "buy", -5, 10), ("a", "buy", True, 10),
            ):
                self.refused_order(market, InvalidOrder, *parts)
            self.refused_order(market, InvalidOrder, "a", "buy", 200, 10, kind="soon")
            self.refused_order(market, InvalidOrder, "a", "buy", 200, 10, shown=20)
            self.refused_order(market, InvalidOrder, "a", "buy", 200, 10, shown=-10)

    def test_the_rule_of_the_call(self):
        call, opened = self.markets()
        cases = [((200, 10), {"kind": "now"}), ((200, 10), {"kind": "all"}), ((None, 10), {"kind": "all"})]
        cases += [((200, 10), {"shown": 10}), ((200, 20), {"shown": 10, "kind": "rest"})]
        for parts, more in cases:
            self.refused_order(call, InvalidOrder, "a", "buy", *parts, **more)
            self.assertEqual(len(opened.submit("a", "buy", *parts, **more)), 1)
        for shown in (1, 2, 7):
            self.refused_order(wide_market(), InvalidOrder, "a", "buy", 100, 7, shown=shown)
        for market in (call, opened):
            self.assertEqual(len(market.submit("a", "buy", 200, 10)), 1)
            self.assertEqual(len(market.submit("a", "buy", None, 10, kind="now")), 1)

    def test_no_stop_orders_in_a_call(self):
        call, opened = self.markets()
        self.refused_stop(call, WrongPhase, "a", "buy", 200, 200, 10)
        self.refused_stop(call, WrongPhase, "", "bid", 0, 0, 0)
        opened.submit_stop("a", "buy", 200, 200, 10)
        opened.close()
        self.refused_stop(opened, WrongPhase, "a", "buy", 200, 200, 10)

    def test_the_parts_of_a_stop_order(self):
        market = self.markets()[1]
        for parts in (
            ("", "buy", 200, 200, 10), ("a", "bid", 200, 200, 10), ("a", "buy", 0, 200, 10),
            ("a", "buy", TOP + 1, 200, 10), ("a", "buy", None, 200, 10), ("a", "buy", 200, 0, 10),
            ("a", "buy", 200, TOP + 5, 10), ("a", "buy", 200, 200, 0), ("a", "buy", 200, 200, TOP + 10),
        ):
            self.refused_stop(market, InvalidOrder, *parts)

    def test_the_lot(self):
        for market in self.markets():
            for quantity in (1, 5, 9, 11, 19, TOP - 1):
                self.refused_order(market, InvalidOrder, "a", "buy", 200, quantity)
                self.refused_order(market, InvalidOrder, "a", "sell", None, quantity, kind="now")
            for quantity in (10, 20, TOP):
                market.check_new_order("a", "buy", 200, quantity)
        for quantity in (1, 9, 11, 19):
            self.refused_stop(market, InvalidOrder, "a", "buy", 200, 200, quantity)
            self.refused_stop(market, InvalidOrder, "a", "buy", 200, None, quantity)
        market.check_new_stop("a", "buy", 200, None, 20)

    def test_the_lot_of_the_shown_part(self):
        market = self.markets()[1]
        for shown in (1, 9, 11, 29):
            self.refused_order(market, InvalidOrder, "a", "buy", 200, 30, shown=shown)
        for shown in (0, 10, 20, 30):
            market.check_new_order("a", "buy", 200, 30, shown=shown)

    def test_the_tick(self):
        for market in self.markets():
            for price in (199, 201, 204, 196, 151, 249):
                self.refused_order(market, InvalidOrder, "a", "buy", price, 10)
                self.refused_order(market, InvalidOrder, "a", "sell", price, 10)
            for price in (150, 195, 205, 250):
                market.check_new_order("a", "buy", price, 10)
        self.refused_stop(market, InvalidOrder, "a", "buy", 200, 201, 10)
        market.check_new_stop("a", "buy", 200, 205, 10)

    def test_the_band(self):
        for market in self.markets():
            for side in ("buy", "sell"):
                for price in (145, 255, 5, TOP):
                    self.refused_order(market, OutOfBand, "a", side, price, 10)
                for price in (150, 250):
                    market.check_new_order("a", side, price, 10)
        for side in ("buy", "sell"):
            for price in (145, 255):
                self.refused_stop(market, OutOfBand, "a", side, 200, price, 10)
            for price in (150, 250, None):
                market.check_new_stop("a", side, 200, price, 10)

    def test_the_trigger_is_not_checked(self):
        market = self.markets()[1]
        for trigger in (1, 199, 203, 999, TOP):
            market.check_new_stop("a", "buy", trigger, 200, 10)

    def test_a_market_order_has_no_price_to_check(self):
        for market in self.markets():
            market.check_new_order("a", "buy", None, 10, kind="now")

    def test_lot_and_tick_go_before_the_band(self):
        for market in self.markets():
            self.refused_order(market, InvalidOrder, "a", "buy", 1000, 11)
            self.refused_order(market, InvalidOrder, "a", "buy", 1001, 10)
            self.refused_order(market, OutOfBand, "a", "buy", 1000, 10)
        self.refused_stop(market, InvalidOrder, "a", "buy", 200, 1000, 11)
        self.refused_stop(market, InvalidOrder, "a", "buy", 200, 1001, 10)
        self.refused_order(market, InvalidOrder, "a", "buy", 1000, 20, shown=11)
        self.refused_order(self.markets()[0], InvalidOrder, "a", "buy", 1000, 10, kind="all")

    def test_the_band_lies_around_the_reference_price_of_the_moment(self):
        market = Market(5, 10, 50, 200)
        market.submit("a", "buy", 240, 10)
        market.submit("b", "sell", 240, 10)
        market.start()
        self.refused_order(market, OutOfBand, "a", "buy", 185, 10)
        market.submit("a", "buy", 290, 10)
        self.refused_order(market, OutOfBand, "a", "buy", 295, 10)
        market.submit("b", "sell", 290, 10)
        # A trade in the book moves the last price, and the reference price only at the close.
        self.refused_order(market, OutOfBand, "a", "buy", 295, 10)
        market.close()
        market.check_new_order("a", "buy", 340, 10)
        self.refused_order(market, OutOfBand, "a", "buy", 345, 10)
        self.refused_order(market, OutOfBand, "a", "buy", 235, 10)

    def test_a_band_of_0(self):
        market = Market(1, 1, 0, 77)
        market.check_new_order("a", "buy", 77, 1)
        self.refused_order(market, OutOfBand, "a", "buy", 76, 1)
        self.refused_order(market, OutOfBand, "a", "sell", 78, 1)


if __name__ == "__main__":
    unittest.main()
