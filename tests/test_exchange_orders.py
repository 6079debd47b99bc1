"""Points 11.4 to 11.8: orders of an exchange, their errors, their cover, and the trades that are recorded."""

import unittest

from fairbourse.day import settle, split_shares
from fairbourse.errors import (
    HouseFallen, InvalidAmount, InvalidOrder, MarginShort, NotOwner, OutOfBand, Overdrawn, UnknownName, UnknownOrder,
    WrongPhase,
)
from exchanges import FREE, ExchangeCase, exchange_of, fees_of
from support import all_told

# An order of the house, symbol, side, price, quantity, kind and shown part that can be accepted.
GOOD = ("alder", "ABC", "buy", 1000, 20, "rest", 0)
# What makes an order wrong, in the order in which the errors are checked.
FLAWS_OF_ORDERS = [
    ({0: "dogwood"}, UnknownName),
    ({0: "cedar"}, HouseFallen),
    ({1: "ZZ"}, UnknownName),
    ({2: "both"}, InvalidOrder),
    ({5: "some"}, InvalidOrder),
    ({4: 0}, InvalidOrder),
    ({4: 1000001}, InvalidOrder),
    ({3: 0}, InvalidOrder),
    ({6: 21}, InvalidOrder),
    ({5: "all"}, InvalidOrder),
    ({4: 25}, InvalidOrder),
    ({3: 1001}, InvalidOrder),
    ({3: 1205}, OutOfBand),
    ({2: "sell"}, Overdrawn),
    ({4: 1000}, MarginShort),
]
# What makes a stop order of the house, symbol, side, trigger, price and quantity wrong.
GOOD_STOP = ("alder", "ABC", "buy", 1003, 1000, 20)
FLAWS_OF_STOPS = [
    ({0: "dogwood"}, UnknownName),
    ({0: "cedar"}, HouseFallen),
    ({1: "ZZ"}, UnknownName),
    ({1: "XY"}, WrongPhase),
    ({2: "both"}, InvalidOrder),
    ({3: 0}, InvalidOrder),
    ({3: 1000001}, InvalidOrder),
    ({4: 0}, InvalidOrder),
    ({5: 0}, InvalidOrder),
    ({5: 25}, InvalidOrder),
    ({4: 1001}, InvalidOrder),
    ({4: 795}, OutOfBand),
    ({2: "sell"}, Overdrawn),
    ({5: 1000}, MarginShort),
]


def flawed(good, changes):
    parts = list(good)
    for at, value in changes.items():
        parts[at] = value
    return parts


def give(exchange, parts):
    house, symbol, side, price, quantity, kind, shown = parts
    return exchange.order(house, symbol, side, price, quantity, kind=kind, shown=shown)


def exchange_with_margin(*started):
    """An exchange in which cedar has fallen and the others have some margin; these markets are open."""
    exchange = exchange_of()
    exchange.owe("cedar", "alder", 51)
    settle(exchange)
    exchange.pledge("alder", 1000)
    exchange.pledge("birch", 1000)
    for symbol in started:
        exchange.start(symbol)
    return exchange


def free_exchange(*started):
    """An exchange without scenarios in which each house has 100 units of each instrument."""
    exchange = exchange_of(FREE)
    for house in exchange.houses:
        for symbol in exchange.symbols:
            exchange.issue(house, symbol, 100)
    for symbol in started:
        exchange.start(symbol)
    return exchange


class ErrorsTest(ExchangeCase):
    def refused_order(self, exchange, error, parts):
        house, symbol, side, price, quantity, kind, shown = parts
        self.refused(exchange, error, "order", house, symbol, side, price, quantity, kind=kind, shown=shown)

    def test_a_good_order(self):
        for started in ([], ["ABC"]):
            exchange = exchange_with_margin(*started)
            self.assertEqual(all_told(give(exchange, GOOD)), [(1, "alder", "buy", [], [], 20)])
            self.assertEqual(give(exchange, GOOD)[0].number, 2)

    def test_each_error_of_an_order_in_both_phases(self):
        for started in ([], ["ABC"]):
            exchange = exchange_with_margin(*started)
            for changes, error in FLAWS_OF_ORDERS:
                # The kind "all" is wrong in a call alone.
                if not (started and changes == {5: "all"}):
                    self.refused_order(exchange, error, flawed(GOOD, changes))

    def test_the_order_in_which_the_errors_of_an_order_are_checked(self):
        for started in ([], ["ABC"]):
            exchange = exchange_with_margin(*started)
            for place, (first, error) in enumerate(FLAWS_OF_ORDERS):
                for second, _ in FLAWS_OF_ORDERS[place + 1:]:
                    if not set(first) & set(second) and not (started and first == {5: "all"}):
                        self.refused_order(exchange, error, flawed(GOOD, {**second, **first}))

    def test_overdrawn_before_margin(self):
        exchange = exchange_with_margin()
        self.refused(exchange, Overdrawn, "order", "alder", "ABC", "sell", 1000, 1000)
        exchange.issue("alder", "ABC", 1000)
        self.refused(exchange, MarginShort, "order", "alder", "ABC", "sell", 1000, 1000)

    def test_the_rule_of_the_call(self):
        exchange = exchange_with_margin()
        for price, kind, shown in (
            (1000, "now", 0), (1000, "all", 0), (None, "all", 0), (None, "rest", 0), (1000, "rest", 10), (None, "now", 10),
        ):
            self.refused(exchange, InvalidOrder, "order", "alder", "ABC", "buy", price, 20, kind=kind, shown=shown)
        give(exchange, flawed(GOOD, {3: None, 5: "now"}))
        self.assertEqual(exchange.market("ABC").queue(), [(1, "alder", "buy", None, 20)])
        exchange = exchange_with_margin("ABC")
        for price, kind, shown in ((1000, "now", 0), (1000, "all", 0), (None, "all", 0), (None, "now", 0), (1000, "rest", 10)):
            exchange.order("alder", "ABC", "buy", price, 20, kind=kind, shown=shown)
        self.refused(exchange, InvalidOrder, "order", "alder", "ABC", "buy", None, 20)

    def test_lot_tick_and_band(self):
        for started in ([], ["ABC"]):
            exchange = exchange_with_margin(*started)
            for quantity in (1, 9, 11, 15):
                self.refused(exchange, InvalidOrder, "order", "alder", "ABC", "buy", 1000, quantity)
            for price in (999, 1001, 1199, 1201):
                self.refused(exchange, InvalidOrder, "order", "alder", "ABC", "buy", price, 10)
            for price in (795, 1205, 5, 1000000):
                self.refused(exchange, OutOfBand, "order", "alder", "ABC", "buy", price, 10)
            for price in (800, 1200):
                exchange.order("alder", "ABC", "buy", price, 10)
        self.refused(exchange, InvalidOrder, "order", "alder", "ABC", "buy", 1000, 20, shown=15)
        exchange.order("alder", "ABC", "buy", 1000, 20, shown=10)

    def test_market_orders_have_no_tick_and_no_band(self):
        exchange = exchange_with_margin("ABC")
        self.refused(exchange, InvalidOrder, "order", "alder", "ABC", "buy", None, 15, kind="now")
        self.assertEqual(exchange.order("alder", "ABC", "buy", None, 10, kind="now")[0].number, 1)

    def test_each_error_of_a_stop_order(self):
        exchange = exchange_with_margin("ABC")
        for changes, error in FLAWS_OF_STOPS:
            self.refused(exchange, error, "stop", *flawed(GOOD_STOP, changes))

    def test_the_order_in_which_the_errors_of_a_stop_order_are_checked(self):
        exchange = exchange_with_margin("ABC")
        for place, (first, error) in enumerate(FLAWS_OF_STOPS):
            for second, _ in FLAWS_OF_STOPS[place + 1:]:
                if not set(first) & set(second):
                    self.refused(exchange, error, "stop", *flawed(GOOD_STOP, {**second, **first}))

    def test_there_are_no_stop_orders_in_a_call(self):
        exchange = exchange_with_margin()
        self.refused(exchange, WrongPhase, "stop", *GOOD_STOP)
        exchange.start("ABC")
        self.assertEqual(all_told(exchange.stop(*GOOD_STOP)), [(1, "alder", "buy", [], [], 0)])
        settle(exchange)
        self.refused(exchange, WrongPhase, "stop", *GOOD_STOP)

    def test_the_trigger_of_a_stop_order_is_not_checked_by_tick_and_band(self):
        exchange = exchange_with_margin("ABC")
        for trigger in (1, 1001, 1000000):
            exchange.stop("alder", "ABC", "buy", trigger, None, 10)
        self.assertEqual([row[3] for row in exchange.market("ABC").book.stops()], [1, 1001, 1000000])

    def test_an_order_that_raises_an_error_gets_no_number(self):
        for started in ([], ["ABC"]):
            exchange = exchange_with_margin(*started)
            self.refused(exchange, MarginShort, "order", "alder", "ABC", "buy", 1000, 1000)
            self.assertEqual(give(exchange, GOOD)[0].number, 1)


class CancelTest(ExchangeCase):
    def test_orders_in_the_call_in_the_book_and_waiting(self):
        exchange = exchange_with_margin("XY")
        exchange.order("alder", "ABC", "buy", 1000, 20)
        exchange.order("alder", "XY", "buy", 90, 7)
        exchange.stop("alder", "XY", "buy", 99, None, 3)
        self.assertEqual(exchange.cancel("alder", "ABC", 1), 20)
        self.assertEqual(exchange.cancel("alder", "XY", 2), 3)
        self.assertEqual(exchange.cancel("alder", "XY", 1), 7)
        for symbol in ("ABC", "XY"):
            self.refused(exchange, UnknownOrder, "cancel", "alder", symbol, 1)
        self.assertEqual(exchange.needed("alder", []), (0, None))

    def test_errors_in_their_order(self):
        exchange = exchange_with_margin("XY")
        exchange.order("alder", "ABC", "buy", 1000, 20)
        exchange.order("alder", "XY", "buy", 90, 7)
        exchange.stop("alder", "XY", "buy", 99, None, 3)
        for number in (1, 2, 3, 0):
            for symbol in ("ABC", "XY", "ZZ"):
                self.refused(exchange, UnknownName, "cancel", "dogwood", symbol, number)
                self.refused(exchange, HouseFallen, "cancel", "cedar", symbol, number)
            self.refused(exchange, UnknownName, "cancel", "alder", "ZZ", number)
        for symbol, number in (("ABC", 0), ("ABC", 2), ("XY", 0), ("XY", 3), ("XY", 10 ** 9)):
            self.refused(exchange, UnknownOrder, "cancel", "alder", symbol, number)
            self.refused(exchange, UnknownOrder, "cancel", "birch", symbol, number)
        for symbol, number in (("ABC", 1), ("XY", 1), ("XY", 2)):
            self.refused(exchange, NotOwner, "cancel", "birch", symbol, number)


class PhasesTest(ExchangeCase):
    def test_a_call_and_the_book_behind_it(self):
        exchange = free_exchange()
        market = exchange.market("ABC")
        self.assertEqual((market.tick, market.lot, market.band, market.reference, market.phase), (1, 1, 1000000, 100, "call"))
        self.assertEqual(all_told(exchange.order("alder", "ABC", "buy", 102, 30)), [(1, "alder", "buy", [], [], 30)])
        exchange.order("birch", "ABC", "sell", 100, 20)
        exchange.order("cedar", "ABC", "sell", 102, 20)
        exchange.order("cedar", "ABC", "sell", 104, 5)
        self.assertEqual(exchange.trades, [])
        self.assertEqual(market.queue()[2], (3, "cedar", "sell", 102, 20))
        self.assertEqual(exchange.start("ABC"), (102, 2))
        self.assertEqual(exchange.trades, [("alder", "birch", "ABC", 20, 102), ("alder", "cedar", "ABC", 10, 102)])
        self.assertEqual((market.phase, market.reference, market.book.last, market.queue()), ("open", 102, 102, []))
        self.assertEqual(market.book.orders("sell"), [(3, "cedar", 102, 10, 10), (4, "cedar", 104, 5, 5)])
        self.assertEqual(exchange.order("alder", "ABC", "buy", 90, 1)[0].number, 5)
        self.assertEqual(exchange.market("XY").phase, "call")

    def test_an_open_market_is_not_started_again(self):
        exchange = free_exchange("ABC")
        self.refused(exchange, WrongPhase, "start", "ABC")
        self.assertEqual(exchange.start("XY"), (100, 0))
        for symbol in ("", "ZZ", "abc"):
            self.refused(exchange, UnknownName, "start", symbol)
            self.refused(exchange, UnknownName, "market", symbol)

    def test_a_call_without_trades(self):
        exchange = free_exchange()
        exchange.order("alder", "ABC", "buy", 90, 5)
        exchange.order("birch", "ABC", "sell", 110, 5)
        self.assertEqual(exchange.start("ABC"), (100, 0))
        market = exchange.market("ABC")
        self.assertEqual((market.reference, market.book.last, exchange.trades), (100, None, []))
        self.assertEqual(exchange.order("alder", "ABC", "buy", 90, 5)[0].number, 3)

    def test_a_call_in_which_a_house_trades_with_itself(self):
        exchange = exchange_of(FREE + "\nfee 1000000")
        exchange.issue("alder", "ABC", 9)
        exchange.order("alder", "ABC", "buy", 105, 5)
        exchange.order("alder", "ABC", "sell", 105, 5)
        self.assertEqual(exchange.start("ABC"), (105, 1))
        market = exchange.market("ABC")
        self.assertEqual((market.reference, market.book.last, market.book.orders("buy")), (105, 105, []))
        self.assertEqual((exchange.trades, exchange.bought("alder", "ABC")), ([], 0))
        self.assertEqual(fees_of(exchange), {"alder": (0, 0), "birch": (0, 0), "cedar": (0, 0)})
        settle(exchange)
        self.check_units(exchange, alder_ABC=9)

    def test_a_call_with_own_and_other_trades(self):
        exchange = free_exchange()
        exchange.order("alder", "ABC", "buy", 105, 8)
        exchange.order("alder", "ABC", "sell", 100, 5)
        exchange.order("birch", "ABC", "sell", 101, 3)
        self.assertEqual(exchange.start("ABC"), (101, 2))
        self.assertEqual(exchange.trades, [("alder", "birch", "ABC", 3, 101)])

    def test_numbers_begin_again_behind_a_closing(self):
        exchange = free_exchange("ABC")
        exchange.order("alder", "ABC", "buy", 90, 5)
        exchange.order("alder", "ABC", "buy", 91, 5)
        settle(exchange)
        self.assertEqual(exchange.order("alder", "ABC", "buy", 90, 5)[0].number, 1)
        self.assertEqual(exchange.order("alder", "ABC", "buy", 90, 5)[0].number, 2)
        exchange.start("ABC")
        self.assertEqual(exchange.order("alder", "ABC", "buy", 90, 5)[0].number, 3)
        split_shares(exchange, "ABC", 2, 1)
        self.assertEqual(exchange.order("alder", "ABC", "buy", 50, 5)[0].number, 1)

    def test_the_reference_price_behind_a_settlement(self):
        exchange = exchange_of("house a 0\nhouse b 900\ninstrument ABC 1 1 30 100\ninstrument XY 1 1 5 50")
        exchange.issue("a", "ABC", 9)
        exchange.start("ABC")
        exchange.order("a", "ABC", "sell", 120, 5)
        exchange.order("b", "ABC", "buy", 125, 5)
        market = exchange.market("ABC")
        self.assertEqual((market.reference, market.closing_reference()), (100, 120))
        self.refused(exchange, OutOfBand, "order", "b", "ABC", "buy", 131, 1)
        settle(exchange)
        self.assertEqual((market.reference, market.phase, market.book.last), (120, "call", None))
        self.assertEqual(exchange.market("XY").reference, 50)
        exchange.order("b", "ABC", "buy", 150, 1)
        self.refused(exchange, OutOfBand, "order", "b", "ABC", "buy", 151, 1)
        self.refused(exchange, OutOfBand, "order", "b", "ABC", "buy", 89, 1)

    def test_the_best_prices_of_a_book_never_cross(self):
        exchange = free_exchange("ABC")
        for price in (99, 101, 100, 103):
            exchange.order("alder", "ABC", "buy", price, 2)
            exchange.order("birch", "ABC", "sell", price + 1, 3)
            book = exchange.market("ABC").book
            if book.best("buy") is not None and book.best("sell") is not None:
                self.assertLess(book.best("buy"), book.best("sell"))


class UnitsTest(ExchangeCase):
    def test_a_house_sells_no_more_than_its_free_units(self):
        for started in ([], ["ABC"]):
            exchange = free_exchange(*started)
            self.refused(exchange, Overdrawn, "order", "alder", "ABC", "sell", 100, 101)
            exchange.order("alder", "ABC", "sell", 100, 60)
            self.refused(exchange, Overdrawn, "order", "alder", "ABC", "sell", 100, 41)
            exchange.order("alder", "XY", "sell", 100, 100)
            exchange.order("alder", "ABC", "sell", 101, 40)
            self.refused(exchange, Overdrawn, "order", "alder", "ABC", "sell", 101, 1)
            exchange.order("alder", "ABC", "buy", 90, 500)
            exchange.cancel("alder", "ABC", 1)
            exchange.order("alder", "ABC", "sell", 100, 60)
            self.refused(exchange, Overdrawn, "order", "alder", "ABC", "sell", 101, 1)

    def test_market_orders_need_units_too(self):
        for started, kinds in (([], ["now"]), (["ABC"], ["now", "all"])):
            for kind in kinds:
                exchange = free_exchange(*started)
                self.refused(exchange, Overdrawn, "order", "alder", "ABC", "sell", None, 101, kind=kind)
                exchange.order("alder", "ABC", "sell", None, 100, kind=kind)

    def test_waiting_stop_orders_count(self):
        exchange = free_exchange("ABC")
        self.refused(exchange, Overdrawn, "stop", "alder", "ABC", "sell", 90, None, 101)
        exchange.stop("alder", "ABC", "sell", 90, None, 60)
        self.refused(exchange, Overdrawn, "stop", "alder", "ABC", "sell", 90, 80, 41)
        self.refused(exchange, Overdrawn, "order", "alder", "ABC", "sell", 100, 41)
        exchange.stop("alder", "ABC", "buy", 110, None, 500)
        exchange.stop("alder", "ABC", "sell", 90, 80, 30)
        exchange.order("alder", "ABC", "sell", 100, 10)
        self.refused(exchange, Overdrawn, "order", "alder", "ABC", "sell", 100, 1)
        self.assertEqual(exchange.market("ABC").open_quantities("alder", "sell"), [10, 60, 30])

    def test_hidden_units_count(self):
        exchange = free_exchange("ABC")
        exchange.order("alder", "ABC", "sell", 100, 60, shown=1)
        self.refused(exchange, Overdrawn, "order", "alder", "ABC", "sell", 100, 41)

    def test_unsettled_units_that_are_sold(self):
        exchange = free_exchange("ABC")
        exchange.order("birch", "ABC", "buy", 100, 500)
        exchange.order("alder", "ABC", "sell", 100, 70)
        self.assertEqual(exchange.bought("alder", "ABC"), -70)
        self.assertEqual(exchange.bought("birch", "ABC"), 70)
        self.assertEqual((exchange.bought("cedar", "ABC"), exchange.bought("alder", "XY")), (0, 0))
        self.refused(exchange, Overdrawn, "order", "alder", "ABC", "sell", 100, 31)
        exchange.order("alder", "ABC", "sell", 100, 30)
        self.refused(exchange, Overdrawn, "order", "alder", "ABC", "sell", 100, 1)
        settle(exchange)
        self.refused(exchange, Overdrawn, "order", "alder", "ABC", "sell", 100, 1)
        exchange.order("birch", "ABC", "sell", 100, 200)

    def test_units_that_are_bought_are_not_free_before_they_are_settled(self):
        exchange = free_exchange("ABC")
        exchange.order("birch", "ABC", "sell", 100, 50)
        exchange.order("alder", "ABC", "buy", 100, 50)
        self.refused(exchange, Overdrawn, "order", "alder", "ABC", "sell", 101, 101)
        exchange.order("alder", "ABC", "sell", 101, 100)
        exchange.order("birch", "ABC", "buy", 101, 50)
        # Sold as much as bought: what is left of the order and the units are all that counts.
        self.assertEqual(exchange.bought("alder", "ABC"), 0)
        exchange.order("alder", "ABC", "sell", 101, 50)
        self.refused(exchange, Overdrawn, "order", "alder", "ABC", "sell", 101, 1)
        exchange.order("birch", "ABC", "buy", 101, 100)
        self.assertEqual(exchange.bought("alder", "ABC"), -100)
        settle(exchange)
        self.check_units(exchange, alder_ABC=0, birch_ABC=200, cedar_ABC=100)


class MarginTest(ExchangeCase):
    def margins(self, exchange, **expected):
        for house, needed in expected.items():
            self.assertEqual(exchange.needed(house, [])[0], needed)
            self.assertGreaterEqual(exchange.cash.balance("margin " + house), needed)

    def test_the_margin_of_the_whole_new_order(self):
        for started in ([], ["ABC"]):
            exchange = exchange_with_margin(*started)
            self.refused(exchange, MarginShort, "order", "alder", "ABC", "buy", 1000, 60)
            exchange.order("alder", "ABC", "buy", 1000, 50)
            self.margins(exchange, alder=1000, birch=0)
            self.refused(exchange, MarginShort, "order", "alder", "ABC", "buy", 1000, 10)

    def test_orders_of_both_sides_and_several_instruments(self):
        exchange = exchange_with_margin("XY")
        exchange.issue("alder", "ABC", 100)
        exchange.issue("alder", "XY", 100)
        exchange.order("alder", "ABC", "buy", 1000, 10)
        self.assertEqual(exchange.needed("alder", []), (200, 0))
        exchange.order("alder", "ABC", "sell", 1000, 20)
        self.assertEqual(exchange.needed("alder", []), (400, 1))
        exchange.order("alder", "XY", "buy", 100, 30)
        self.assertEqual(exchange.needed("alder", []), (550, 1))
        exchange.order("alder", "XY", "sell", 101, 40)
        self.assertEqual(exchange.needed("alder", []), (600, 0))
        exchange.stop("alder", "XY", "sell", 90, None, 10)
        self.assertEqual(exchange.needed("alder", []), (700, 0))
        exchange.stop("alder", "XY", "buy", 110, 120, 10)
        self.assertEqual(exchange.needed("alder", []), (700, 0))
        self.refused(exchange, MarginShort, "stop", "alder", "XY", "sell", 90, None, 31)
        exchange.stop("alder", "XY", "sell", 90, None, 30)
        self.assertEqual(exchange.needed("alder", []), (1000, 0))
        self.refused(exchange, MarginShort, "order", "alder", "XY", "sell", 120, 1)
        self.assertEqual(exchange.needed("birch", []), (0, None))

    def test_further_orders(self):
        exchange = exchange_with_margin()
        self.assertEqual(exchange.needed("alder", [(0, 10)]), (200, 0))
        self.assertEqual(exchange.needed("alder", [(0, -10)]), (200, 1))
        self.assertEqual(exchange.needed("alder", [(1, 10)]), (50, 1))
        self.assertEqual(exchange.needed("alder", [(0, -1), (1, 10)]), (70, 1))
        exchange.order("alder", "ABC", "buy", 1000, 10)
        self.assertEqual(exchange.needed("alder", [(0, 10), (1, -3)]), (430, 0))
        for index in (-1, 2):
            self.refused(exchange, InvalidAmount, "needed", "alder", [(index, 5)])

    def test_unsettled_units(self):
        exchange = exchange_with_margin("ABC")
        exchange.issue("birch", "ABC", 50)
        exchange.order("birch", "ABC", "sell", 1000, 50)
        self.margins(exchange, alder=0, birch=1000)
        exchange.order("alder", "ABC", "buy", 1000, 30)
        self.assertEqual(exchange.needed("alder", []), (600, 0))
        self.assertEqual(exchange.needed("birch", []), (1000, 1))
        exchange.cancel("birch", "ABC", 1)
        self.assertEqual(exchange.needed("birch", []), (600, 1))
        self.refused(exchange, MarginShort, "order", "alder", "ABC", "buy", 1000, 30)
        exchange.order("alder", "ABC", "buy", 1000, 20)
        settle(exchange)
        self.margins(exchange, alder=0, birch=0)
        exchange.release("alder", 1000)

    def test_an_order_that_would_trade_at_once_needs_its_margin_too(self):
        exchange = exchange_with_margin("ABC")
        for kind in ("now", "all"):
            for price in (None, 1000):
                self.refused(exchange, MarginShort, "order", "alder", "ABC", "buy", price, 60, kind=kind)
                exchange.order("alder", "ABC", "buy", price, 50, kind=kind)
        self.margins(exchange, alder=0)

    def test_no_scenarios(self):
        exchange = free_exchange("ABC")
        self.assertEqual(exchange.needed("alder", [(0, 10 ** 6), (1, -5)]), (0, None))
        exchange.order("alder", "ABC", "buy", 1000, 1000000)


class TradesTest(ExchangeCase):
    def test_trades_in_the_book(self):
        exchange = free_exchange("ABC", "XY")
        exchange.order("alder", "ABC", "sell", 101, 10)
        exchange.order("birch", "ABC", "sell", 102, 10)
        reports = exchange.order("cedar", "ABC", "buy", 102, 15)
        self.assertEqual(all_told(reports), [(3, "cedar", "buy", [(1, "alder", 101, 10), (2, "birch", 102, 5)], [], 0)])
        exchange.order("alder", "XY", "buy", 90, 4)
        exchange.order("birch", "XY", "sell", 80, 4)
        self.assertEqual(exchange.trades, [
            ("cedar", "alder", "ABC", 10, 101), ("cedar", "birch", "ABC", 5, 102), ("alder", "birch", "XY", 4, 90),
        ])
        self.assertEqual(exchange.bought("cedar", "ABC"), 15)
        self.assertEqual(exchange.bought("birch", "ABC"), -5)
        self.assertEqual((exchange.bought("alder", "XY"), exchange.bought("birch", "XY")), (4, -4))

    def test_trades_of_triggered_stop_orders(self):
        exchange = free_exchange("ABC")
        exchange.order("alder", "ABC", "sell", 101, 10)
        exchange.order("alder", "ABC", "sell", 105, 10)
        self.assertEqual(all_told(exchange.stop("birch", "ABC", "buy", 101, None, 4)), [(3, "birch", "buy", [], [], 0)])
        reports = exchange.order("cedar", "ABC", "buy", 101, 10)
        self.assertEqual([report.number for report in reports], [4, 3])
        self.assertEqual(exchange.trades, [("cedar", "alder", "ABC", 10, 101), ("birch", "alder", "ABC", 4, 105)])
        reports = exchange.stop("cedar", "ABC", "buy", 105, None, 2)
        self.assertEqual(all_told(reports), [(5, "cedar", "buy", [], [], 0), (5, "cedar", "buy", [(2, "alder", 105, 2)], [], 0)])
        self.assertEqual(exchange.trades[2:], [("cedar", "alder", "ABC", 2, 105)])

    def test_own_orders_are_removed_without_a_trade(self):
        exchange = free_exchange("ABC")
        exchange.order("alder", "ABC", "sell", 101, 10)
        exchange.order("birch", "ABC", "sell", 102, 10)
        reports = exchange.order("alder", "ABC", "buy", 102, 4)
        self.assertEqual(all_told(reports), [(3, "alder", "buy", [(2, "birch", 102, 4)], [1], 0)])
        self.assertEqual(exchange.trades, [("alder", "birch", "ABC", 4, 102)])

    def test_fees_of_both_houses_with_their_millionths(self):
        exchange = exchange_of(FREE + "\nfee 3000")
        exchange.issue("alder", "ABC", 100)
        exchange.start("ABC")
        exchange.order("alder", "ABC", "sell", 101, 10)
        exchange.order("birch", "ABC", "buy", 101, 7)
        # 707 * 3000 millionths are 2 cents and 121000 millionths.
        self.assertEqual(fees_of(exchange), {"alder": (2, 121000), "birch": (2, 121000), "cedar": (0, 0)})
        exchange.order("cedar", "ABC", "buy", 101, 3)
        self.assertEqual(fees_of(exchange), {"alder": (3, 30000), "birch": (2, 121000), "cedar": (0, 909000)})
        settle(exchange)
        self.assertEqual(fees_of(exchange), {"alder": (0, 30000), "birch": (0, 121000), "cedar": (0, 909000)})
        exchange.start("ABC")
        exchange.order("alder", "ABC", "sell", 100, 1)
        exchange.order("cedar", "ABC", "buy", 100, 1)
        self.assertEqual(fees_of(exchange), {"alder": (0, 330000), "birch": (0, 121000), "cedar": (1, 209000)})

    def test_fees_of_a_call_are_taken_at_the_call_price(self):
        exchange = exchange_of(FREE + "\nfee 1000000")
        exchange.issue("alder", "ABC", 100)
        exchange.order("birch", "ABC", "buy", 110, 7)
        exchange.order("alder", "ABC", "sell", 105, 7)
        self.assertEqual(exchange.start("ABC"), (105, 1))
        self.assertEqual(fees_of(exchange), {"alder": (735, 0), "birch": (735, 0), "cedar": (0, 0)})

    def test_the_greatest_trade(self):
        exchange = exchange_of("house a 0\nhouse b 0\ninstrument X 1 1 1000000 1000000\nfee 1000000")
        exchange.issue("a", "X", 1000000)
        exchange.start("X")
        exchange.order("a", "X", "sell", 1000000, 1000000)
        exchange.order("b", "X", "buy", 1000000, 1000000)
        self.assertEqual(fees_of(exchange), {"a": (10 ** 12, 0), "b": (10 ** 12, 0)})


if __name__ == "__main__":
    unittest.main()
