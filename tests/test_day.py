"""Points 11.9 to 11.13: settlements, dividends and splits of an exchange."""

import copy
import random
import unittest

from fairbourse.corporate import dividend, share_split
from fairbourse.day import Day, pay_dividend, settle, split_shares
from fairbourse.errors import HouseFallen, InvalidAmount, InvalidTrade, UnknownName, WrongPhase
from fairbourse.money import split
from exchanges import FREE, MOST_PAID_IN, NO_AMOUNTS, ExchangeCase, balances, dump, exchange_of, fees_of
from naive_day import NaiveDay

# Houses with 100 cents each, shares of 30, 20 and 10, and a skin of 7.
FUNDED = "\n".join([
    "house a 130", "house b 120", "house c 110", "instrument X 1 1 1000000 10", "fund a 30", "fund b 20", "fund c 10",
    "skin 7",
])


def trade(exchange, buyer, seller, units, price, symbol="X"):
    """Let two houses trade in an open market; the seller gets the units for it."""
    exchange.issue(seller, symbol, units)
    exchange.order(seller, symbol, "sell", price, units)
    exchange.order(buyer, symbol, "buy", price, units)


def funded(text=FUNDED):
    exchange = exchange_of(text)
    exchange.start("X")
    return exchange


class DayCase(ExchangeCase):
    def settle(self, exchange):
        """Settle, and hold the day and the balances against the naive one. Returns the day."""
        naive = NaiveDay(exchange)
        fallen = list(exchange.fallen)
        carried = {house: row[1] for house, row in fees_of(exchange).items()}
        references = {symbol: exchange.market(symbol).closing_reference() for symbol in exchange.symbols}
        entries = len(exchange.cash.entries())
        day = settle(exchange)
        self.assertIs(type(day), Day)
        self.assertEqual((day.owed, day.pay, day.losses, day.fallen), (naive.owed, naive.pay, naive.losses, naive.fallen))
        self.assertEqual(balances(exchange.cash), naive.cash)
        self.assertEqual(balances(exchange.units), naive.units)
        self.assertEqual(exchange.fallen, sorted(fallen + naive.fallen))
        self.assertEqual((exchange.trades, exchange.debts), ([], []))
        self.assertEqual(fees_of(exchange), {house: (0, carried[house]) for house in exchange.houses})
        for symbol in exchange.symbols:
            market = exchange.market(symbol)
            self.assertEqual((market.phase, market.reference, market.book.last), ("call", references[symbol], None))
            self.assertEqual((market.queue(), market.book.orders("buy"), market.book.orders("sell")), ([], [], []))
            self.assertEqual(market.book.stops(), [])
        self.assertLessEqual(len(exchange.cash.entries()), entries + 1 + len(day.losses))
        self.assertEqual(sum(balances(exchange.cash).values()), 0)
        return day


class DebtsTest(DayCase):
    def test_nothing_to_settle(self):
        day = self.settle(exchange_of())
        self.assertEqual((day.owed, day.pay, day.losses, day.fallen), ([[0] * 4] * 4, [0] * 4, [], []))
        day = self.settle(exchange_of(""))
        self.assertEqual((day.owed, day.pay, day.losses, day.fallen), ([[0]], [0], [], []))

    def test_the_differences_of_trades_are_owed_to_the_hall_and_by_it(self):
        exchange = funded()
        trade(exchange, "a", "b", 2, 10)
        trade(exchange, "b", "c", 1, 5)
        trade(exchange, "c", "a", 1, 9)
        day = self.settle(exchange)
        self.assertEqual(day.owed, [[0, 0, 0, 11], [0, 0, 0, 0], [0, 0, 0, 4], [0, 15, 0, 0]])
        self.assertEqual((day.pay, day.losses, day.fallen), ([11, 0, 4, 15], [], []))
        self.check_cash(exchange, cash_a=89, cash_b=115, cash_c=96, hall=0, skin=7)
        self.check_units(exchange, a_X=2, b_X=1, c_X=1, HALL_X=0, ISSUER_X=-4)

    def test_a_house_that_pays_as_much_as_it_receives(self):
        exchange = funded()
        trade(exchange, "a", "b", 2, 10)
        trade(exchange, "b", "a", 4, 5)
        day = self.settle(exchange)
        self.assertEqual(day.owed, [[0] * 4] * 4)
        self.check_units(exchange, a_X=2, b_X=4)

    def test_fees_are_owed_to_the_hall(self):
        exchange = funded(FUNDED + "\nfee 100000")
        trade(exchange, "a", "b", 2, 12)
        day = self.settle(exchange)
        self.assertEqual(day.owed, [[0, 0, 0, 26], [0, 0, 0, 2], [0, 0, 0, 0], [0, 24, 0, 0]])
        self.check_cash(exchange, cash_a=74, cash_b=122, hall=4)
        self.assertEqual(fees_of(exchange)["a"], (0, 400000))
        self.assertEqual(self.settle(exchange).owed, [[0] * 4] * 4)

    def test_registered_debts_add_up(self):
        exchange = funded()
        for debtor, creditor, cents in (("a", "b", 5), ("b", "a", 3), ("a", "b", 6), ("c", "a", 7)):
            exchange.owe(debtor, creditor, cents)
        day = self.settle(exchange)
        self.assertEqual(day.owed, [[0, 11, 0, 0], [3, 0, 0, 0], [7, 0, 0, 0], [0, 0, 0, 0]])
        self.check_cash(exchange, cash_a=99, cash_b=108, cash_c=93)

    def test_trades_of_a_call_and_of_several_instruments(self):
        exchange = exchange_of(FREE + "\nfee 20000")
        for house in exchange.houses:
            for symbol in exchange.symbols:
                exchange.issue(house, symbol, 100)
        exchange.order("alder", "ABC", "buy", 102, 30)
        exchange.order("birch", "ABC", "sell", 100, 20)
        exchange.order("alder", "ABC", "sell", 101, 5)
        exchange.start("ABC")
        exchange.start("XY")
        exchange.order("alder", "XY", "sell", 50, 7)
        exchange.order("cedar", "XY", "buy", 51, 4)
        exchange.order("cedar", "ABC", "sell", 90, 10)
        self.assertEqual(exchange.trades[0][:4], ("alder", "birch", "ABC", 20))
        day = self.settle(exchange)
        self.assertEqual(day.losses, [])
        self.check_units(exchange, alder_ABC=125, birch_ABC=80, cedar_ABC=95, alder_XY=96, cedar_XY=104)

    def test_entries_of_units(self):
        exchange = exchange_of(FREE)
        exchange.start("ABC")
        trade(exchange, "alder", "birch", 3, 100, "ABC")
        entries = exchange.units.entries()
        self.settle(exchange)
        delivered = exchange.units.entries()[len(entries):]
        self.assertEqual([sorted(moves) for moves in delivered], [[("alder ABC", 3), ("birch ABC", -3)]])
        self.settle(exchange)
        self.assertEqual(exchange.units.entries()[len(entries):], delivered)

    def test_the_payments_are_one_entry(self):
        exchange = funded()
        exchange.owe("a", "b", 5)
        exchange.owe("b", "c", 7)
        trade(exchange, "a", "c", 1, 20)
        entries = exchange.cash.entries()
        self.settle(exchange)
        posted = exchange.cash.entries()[len(entries):]
        self.assertEqual(len(posted), 1)
        sums = {}
        for name, cents in posted[0]:
            sums[name] = sums.get(name, 0) + cents
        self.assertEqual({name: cents for name, cents in sums.items() if cents}, {"cash a": -25, "cash b": -2, "cash c": 27})

    def test_houses_named_as_other_accounts(self):
        exchange = funded(FUNDED.replace(" a ", " hall ").replace(" b ", " outside ").replace(" c ", " skin "))
        trade(exchange, "hall", "outside", 2, 60)
        trade(exchange, "skin", "hall", 1, 5)
        exchange.owe("skin", "hall", 150)
        day = self.settle(exchange)
        self.assertEqual(day.fallen, ["skin"])

    def test_a_debt_above_the_bound(self):
        exchange = exchange_of("house a 0\nhouse b 0\ninstrument X 1 1 1000000 1000000\nfee 1000000")
        exchange.start("X")
        for _ in range(500):
            trade(exchange, "a", "b", 10 ** 6, 10 ** 6)
        again = copy.deepcopy(exchange)
        trade(exchange, "a", "b", 1, 1)
        self.refused_by(exchange, InvalidTrade, settle)
        day = settle(again)
        self.assertEqual(day.owed, [[0, 0, 10 ** 15], [0, 0, 5 * 10 ** 14], [0, 5 * 10 ** 14, 0]])
        self.assertEqual((day.pay, day.fallen), ([0, 5 * 10 ** 14, 5 * 10 ** 14], ["a"]))
        self.assertEqual(day.losses, [("a", [0, 0, 0, 0], 10 ** 15)])
        self.check_units(again, a_X=0, b_X=0, HALL_X=5 * 10 ** 8, ISSUER_X=-5 * 10 ** 8)


class LossesTest(DayCase):
    def test_a_house_pays_all_that_it_has(self):
        exchange = funded()
        trade(exchange, "a", "b", 10, 10)
        day = self.settle(exchange)
        self.assertEqual((day.pay, day.losses, day.fallen), ([100, 0, 0, 100], [], []))
        self.check_cash(exchange, cash_a=0, cash_b=200, hall=0)
        self.check_units(exchange, a_X=10)

    def test_the_tiers_one_after_the_other(self):
        for lacking, borne, left in (
            (1, [1, 0, 0, 0], 0), (4, [4, 0, 0, 0], 0), (5, [4, 1, 0, 0], 0), (34, [4, 30, 0, 0], 0), (36, [4, 30, 2, 0], 0),
            (41, [4, 30, 7, 0], 0), (47, [4, 30, 7, 6], 0), (71, [4, 30, 7, 30], 0), (72, [4, 30, 7, 30], 1),
            (99, [4, 30, 7, 30], 28),
        ):
            exchange = funded()
            exchange.pledge("a", 4)
            trade(exchange, "a", "b", 1, 96 + lacking)
            day = self.settle(exchange)
            self.assertEqual(day.losses, [("a", borne, left)])
            self.assertEqual(day.pay, [96, 0, 0, 96 + lacking - left])
            self.assertEqual(day.fallen, ["a"])
            self.check_cash(exchange, cash_a=0, margin_a=4 - borne[0], fund_a=30 - borne[1], skin=7 - borne[2], hall=0)
            self.check_cash(exchange, cash_b=196 + lacking - left)
            self.assertEqual(exchange.cash.balance("fund b") + exchange.cash.balance("fund c"), 30 - borne[3])
            self.check_units(exchange, a_X=0, b_X=0, HALL_X=1)

    def test_the_shares_of_the_others_are_divided_by_split(self):
        exchange = funded()
        trade(exchange, "a", "b", 1, 142)
        day = self.settle(exchange)
        self.assertEqual(day.losses, [("a", [0, 30, 7, 5], 0)])
        self.check_cash(exchange, fund_b=16, fund_c=9)

    def test_a_registered_debt_makes_no_loss_of_the_hall(self):
        exchange = funded()
        exchange.owe("a", "b", 101)
        day = self.settle(exchange)
        self.assertEqual(day.losses, [("a", [0, 0, 0, 0], 0)])
        self.assertEqual((day.pay, day.fallen), ([100, 0, 0, 0], ["a"]))
        self.check_cash(exchange, cash_a=0, fund_a=30, skin=7, cash_b=200, hall=0)

    def test_what_is_paid_is_divided_between_the_hall_and_others(self):
        exchange = funded()
        exchange.owe("a", "b", 50)
        trade(exchange, "a", "c", 1, 100)
        day = self.settle(exchange)
        # 100 of 150 cents are paid: 67 to the hall and 33 to b.
        self.assertEqual(day.losses, [("a", [0, 30, 3, 0], 0)])
        self.check_cash(exchange, cash_a=0, cash_b=133, cash_c=200, fund_a=0, skin=4, hall=0)

    def test_several_houses_in_the_order_of_the_names(self):
        exchange = funded()
        exchange.pledge("b", 3)
        trade(exchange, "b", "c", 1, 150)
        trade(exchange, "a", "c", 1, 160)
        day = self.settle(exchange)
        # The share of b has borne a part of the loss of a before its own loss is borne.
        self.assertEqual(day.losses, [("a", [0, 30, 7, 23], 0), ("b", [3, 4, 0, 3], 43)])
        self.assertEqual(day.fallen, ["a", "b"])
        self.assertEqual(day.pay, [100, 97, 0, 267])
        self.check_cash(exchange, cash_a=0, cash_b=0, cash_c=367, fund_a=0, fund_b=0, fund_c=0, skin=0, hall=0)
        self.check_units(exchange, a_X=0, b_X=0, HALL_X=2)

    def test_a_house_that_falls_since_the_hall_cannot_pay(self):
        exchange = funded()
        trade(exchange, "a", "b", 1, 1000)
        exchange.owe("b", "c", 500)
        day = self.settle(exchange)
        self.assertEqual(day.losses, [("a", [0, 30, 7, 30], 833)])
        self.assertEqual(day.fallen, ["a", "b"])
        self.assertEqual(day.pay, [100, 267, 0, 167])
        self.check_cash(exchange, cash_a=0, cash_b=0, cash_c=367)
        self.check_units(exchange, HALL_X=1, a_X=0, b_X=0)

    def test_houses_in_a_ring(self):
        exchange = funded()
        for debtor, creditor in (("a", "b"), ("b", "c"), ("c", "a")):
            exchange.owe(debtor, creditor, 5000)
        self.assertEqual(self.settle(exchange).fallen, [])
        self.check_cash(exchange, cash_a=100, cash_b=100, cash_c=100)

    def test_a_ring_with_the_hall_that_loses_little_in_each_round(self):
        exchange = exchange_of("house a 0\nhouse b 0\nhouse c 0\ninstrument X 1 1 1000000 1000000\nfee 1000000")
        exchange.start("X")
        trade(exchange, "a", "b", 10 ** 6, 10 ** 6)
        exchange.owe("b", "c", 9999)
        day = settle(exchange)
        most = 10 ** 12
        self.assertEqual(day.owed, [[0, 0, 0, 2 * most], [0, 0, 9999, most], [0, 0, 0, 0], [0, most, 0, 0]])
        # Nobody has cash, so the hall and b pay each other as much as leaves no cent to c.
        amount = day.pay[1]
        self.assertEqual(day.pay, [0, amount, 0, amount])
        self.assertEqual(split(amount, [9999, most]), [0, amount])
        self.assertEqual(split(amount + 1, [9999, most]), [1, amount])
        self.assertEqual(day.fallen, ["a", "b"])
        self.check_cash(exchange, cash_a=0, cash_b=0, cash_c=0, hall=0)

    def test_the_units_that_a_fallen_house_sold_are_delivered(self):
        exchange = funded()
        exchange.owe("a", "c", 9999)
        trade(exchange, "b", "a", 3, 10)
        trade(exchange, "a", "b", 1, 10)
        trade(exchange, "a", "c", 5, 1)
        exchange.issue("a", "X", 6)
        self.assertEqual(exchange.bought("a", "X"), 3)
        self.assertEqual(self.settle(exchange).fallen, ["a"])
        self.check_units(exchange, a_X=9, b_X=3, c_X=0, HALL_X=3)
        exchange = funded()
        exchange.owe("a", "c", 9999)
        trade(exchange, "b", "a", 3, 10)
        self.assertEqual(self.settle(exchange).fallen, ["a"])
        self.check_units(exchange, a_X=0, b_X=3, HALL_X=0)

    def test_a_fallen_house_gives_no_more_commands_and_falls_only_once(self):
        exchange = funded()
        exchange.owe("b", "c", 9999)
        self.settle(exchange)
        self.assertEqual(exchange.fallen, ["b"])
        for command, args in (("deposit", (5,)), ("withdraw", (0,)), ("pledge", (0,)), ("release", (0,)), ("issue", ("X", 1)),
                              ("owe", ("a", 1)), ("order", ("X", "buy", 10, 1)), ("stop", ("X", "buy", 10, 10, 1)),
                              ("cancel", ("X", 1))):
            self.refused(exchange, HouseFallen, command, "b", *args)
        self.refused(exchange, HouseFallen, "owe", "a", "b", 1)
        exchange.owe("a", "c", 9999)
        day = self.settle(exchange)
        self.assertEqual((day.fallen, exchange.fallen), (["a"], ["a", "b"]))
        self.assertEqual(self.settle(exchange).fallen, [])

    def test_the_share_of_a_fallen_house_bears_later_losses(self):
        exchange = funded()
        exchange.owe("a", "c", 9999)
        self.settle(exchange)
        self.check_cash(exchange, fund_a=30)
        exchange.start("X")
        trade(exchange, "b", "c", 1, 157)
        day = self.settle(exchange)
        self.assertEqual(day.losses, [("b", [0, 20, 7, 30], 0)])
        self.check_cash(exchange, fund_a=7, fund_c=3)

    def test_what_is_not_paid_is_not_owed_any_more(self):
        exchange = funded()
        exchange.owe("a", "c", 300)
        trade(exchange, "b", "c", 1, 300)
        self.settle(exchange)
        day = self.settle(exchange)
        self.assertEqual((day.owed, day.losses, day.fallen), ([[0] * 4] * 4, [], []))

    def test_lists_of_a_day(self):
        exchange = funded()
        trade(exchange, "a", "b", 1, 300)
        day = self.settle(exchange)
        before = dump(exchange)
        day.fallen.append("c")
        day.owed[0][1] = 9
        day.losses.clear()
        day.pay[0] = 5
        self.assertEqual(dump(exchange), before)

    def test_drawn_days(self):
        draw = random.Random(1)
        seen = set()
        for _ in range(250):
            houses = "abcdef"[:draw.randint(1, 6)]
            lines = [f"house {house} {draw.randint(20, 150)}" for house in houses]
            lines += [f"fund {house} {draw.randint(0, 20)}" for house in houses if draw.random() < 0.7]
            lines += ["instrument X 1 1 1000000 10", "instrument Y 1 1 1000000 10"]
            lines += [f"fee {draw.choice([0, 3000, 200000, 1000000])}", f"skin {draw.randint(0, 20)}"]
            exchange = exchange_of("\n".join(lines))
            for symbol in ("X", "Y"):
                exchange.start(symbol)
            for house in houses:
                exchange.pledge(house, draw.randint(0, exchange.cash.balance("cash " + house)))
            for _ in range(draw.randint(0, 6) if len(houses) > 1 else 0):
                buyer, seller = draw.sample(houses, 2)
                trade(exchange, buyer, seller, draw.randint(1, 4), draw.randint(1, 40), draw.choice("XY"))
            for _ in range(draw.randint(0, 5) if len(houses) > 1 else 0):
                debtor, creditor = draw.sample(houses, 2)
                exchange.owe(debtor, creditor, draw.randint(1, 90))
            day = self.settle(exchange)
            seen.add((min(len(day.fallen), 2), min(len(day.losses), 2), day.pay[-1] < sum(day.owed[-1])))
        # Nobody, one house and several houses cannot pay; the hall can pay, or it cannot.
        self.assertLessEqual({(0, 0, False), (1, 1, False), (2, 2, False), (1, 1, True), (2, 1, True)}, seen)


class DividendTest(ExchangeCase):
    def test_units_times_cents_from_outside(self):
        exchange = exchange_of()
        exchange.issue("birch", "ABC", 7)
        exchange.issue("alder", "ABC", 40)
        exchange.issue("alder", "XY", 1000)
        rows = pay_dividend(exchange, "ABC", 30)
        self.assertEqual(rows, [("alder", 1200), ("birch", 210), ("cedar", 0)])
        self.check_cash(exchange, outside=-302160, cash_alder=100200, cash_birch=199710, cash_cedar=50, hall=0)
        self.check_units(exchange, alder_ABC=40, birch_ABC=7)
        self.assertEqual(pay_dividend(exchange, "ABC", 0), [("alder", 0), ("birch", 0), ("cedar", 0)])
        rows.clear()
        self.check_cash(exchange, outside=-302160)

    def test_markets_stay_open(self):
        exchange = exchange_of(FREE)
        exchange.start("ABC")
        exchange.order("alder", "ABC", "buy", 90, 5)
        pay_dividend(exchange, "ABC", 3)
        self.assertEqual(exchange.market("ABC").phase, "open")
        self.assertEqual(exchange.market("ABC").open_quantities("alder", "buy"), [5])

    def test_fallen_houses_get_it_and_the_hall_does_not(self):
        exchange = funded()
        exchange.issue("a", "X", 4)
        exchange.owe("a", "c", 9999)
        trade(exchange, "a", "b", 3, 10)
        settle(exchange)
        self.check_units(exchange, a_X=4, HALL_X=3)
        hall = exchange.cash.balance("hall")
        self.assertEqual(pay_dividend(exchange, "X", 5), [("a", 20), ("b", 0), ("c", 0)])
        self.check_cash(exchange, cash_a=20, hall=hall)

    def test_no_more_than_may_be_paid_in(self):
        exchange = exchange_of()
        exchange.issue("alder", "ABC", MOST_PAID_IN - 300750)
        self.refused_by(exchange, InvalidAmount, pay_dividend, "ABC", 2)
        pay_dividend(exchange, "ABC", 1)
        self.check_cash(exchange, outside=-MOST_PAID_IN)
        self.refused_by(exchange, InvalidAmount, pay_dividend, "ABC", 1)
        pay_dividend(exchange, "ABC", 0)
        pay_dividend(exchange, "XY", 1)
        exchange.issue("birch", "XY", 1)
        self.refused_by(exchange, InvalidAmount, pay_dividend, "XY", 1)

    def test_errors_in_their_order(self):
        exchange = funded(FUNDED + "\ninstrument Y 1 1 1 1")
        trade(exchange, "a", "b", 3, 10)
        for cents in (1, 0, -1, 10 ** 12):
            for symbol in ("", "ZZ", "x"):
                self.refused_by(exchange, UnknownName, pay_dividend, symbol, cents)
            for symbol in ("X", "Y"):
                self.refused_by(exchange, WrongPhase, pay_dividend, symbol, cents)
        settle(exchange)
        for bad in NO_AMOUNTS:
            self.refused_by(exchange, InvalidAmount, pay_dividend, "X", bad)
            self.refused_by(exchange, UnknownName, pay_dividend, "Z", bad)
        pay_dividend(exchange, "X", 1)

    def test_an_exchange_without_houses(self):
        exchange = exchange_of("instrument X 1 1 1 1")
        self.assertEqual(pay_dividend(exchange, "X", 5), [])
        self.refused_by(exchange, InvalidAmount, pay_dividend, "X", -1)


class SplitTest(ExchangeCase):
    def test_units_and_cents(self):
        exchange = exchange_of()
        exchange.issue("alder", "ABC", 7)
        exchange.issue("birch", "ABC", 4)
        rows = split_shares(exchange, "ABC", 3, 2)
        self.assertEqual(rows, [("alder", 10, 500), ("birch", 6, 0), ("cedar", 0, 0)])
        self.check_units(exchange, alder_ABC=10, birch_ABC=6, cedar_ABC=0, ISSUER_ABC=-16, alder_XY=0)
        self.check_cash(exchange, outside=-301250, cash_alder=99500, cash_birch=199500, hall=0)
        self.assertEqual(exchange.market("ABC").reference, 665)
        rows.clear()
        self.check_units(exchange, alder_ABC=10)

    def test_fewer_units(self):
        exchange = exchange_of()
        exchange.issue("alder", "ABC", 7)
        self.assertEqual(split_shares(exchange, "ABC", 1, 3), [("alder", 2, 333), ("birch", 0, 0), ("cedar", 0, 0)])
        self.check_units(exchange, alder_ABC=2, ISSUER_ABC=-2)
        self.assertEqual(exchange.market("ABC").reference, 3000)

    def test_the_market_is_closed_and_the_others_are_not(self):
        exchange = exchange_of(FREE)
        exchange.issue("alder", "ABC", 50)
        for symbol in ("ABC", "XY"):
            exchange.start(symbol)
            exchange.order("alder", symbol, "buy", 90, 5)
            exchange.order("alder", symbol, "buy", 91, 5)
            exchange.stop("alder", symbol, "buy", 120, None, 5)
        split_shares(exchange, "ABC", 2, 1)
        market = exchange.market("ABC")
        self.assertEqual((market.phase, market.reference, market.book.last), ("call", 50, None))
        self.assertEqual((market.queue(), market.book.orders("buy"), market.book.stops()), ([], [], []))
        self.assertEqual(exchange.order("alder", "ABC", "buy", 50, 1)[0].number, 1)
        other = exchange.market("XY")
        self.assertEqual((other.phase, other.reference, len(other.book.orders("buy")), len(other.book.stops())), ("open", 100, 2, 1))
        self.assertEqual(exchange.order("alder", "XY", "buy", 50, 1)[0].number, 4)

    def test_a_market_in_the_call(self):
        exchange = exchange_of(FREE)
        exchange.order("alder", "ABC", "buy", 90, 5)
        split_shares(exchange, "ABC", 1, 4)
        market = exchange.market("ABC")
        self.assertEqual((market.phase, market.reference, market.queue()), ("call", 400, []))

    def test_the_price_is_the_one_behind_the_closing(self):
        # In one call a house trades with itself, so that the last price is another one than the reference price.
        exchange = exchange_of("house a 0\nhouse b 0\ninstrument X 1 1 1000000 100")
        exchange.issue("a", "X", 5)
        exchange.start("X")
        exchange.order("a", "X", "sell", 120, 3)
        exchange.order("b", "X", "buy", 120, 3)
        self.assertEqual(exchange.market("X").reference, 100)
        exchange.deposit("b", 360)
        settle(exchange)
        self.assertEqual(split_shares(exchange, "X", 1, 2), [("a", 1, 0), ("b", 1, 60)])
        self.assertEqual(exchange.market("X").reference, 240)
        exchange.order("a", "X", "buy", 300, 1)
        exchange.order("a", "X", "sell", 300, 1)
        exchange.start("X")
        exchange.market("X").reference = 77
        self.assertEqual(exchange.market("X").closing_reference(), 300)
        self.assertEqual(split_shares(exchange, "X", 1, 2), [("a", 0, 150), ("b", 0, 150)])
        self.assertEqual(exchange.market("X").reference, 600)

    def test_the_new_reference_price(self):
        for tick, reference, numerator, denominator, expected in (
            (1, 100, 3, 1, 33), (1, 100, 3, 2, 66), (5, 100, 3, 2, 65), (5, 100, 1, 1, 100), (7, 700, 1, 1, 700),
            (7, 700, 10, 1, 70), (7, 700, 100, 1, 7), (7, 700, 101, 1, 7), (7, 700, 10 ** 9, 1, 7), (7, 700, 51, 1, 7),
            (7, 700, 50, 1, 14), (1, 1, 2, 1, 1), (1, 1, 1, 10 ** 6, 1000000), (1, 1, 1, 10 ** 6 + 1, 1000000),
            (1, 1, 1, 999999, 999999), (7, 7, 1, 10 ** 9, 999999), (10000, 10000, 3, 2, 10000), (10000, 20000, 3, 2, 10000),
            (10000, 30000, 3, 2, 20000), (3, 999999, 1, 2, 999999), (10000, 1000000, 1, 1000, 1000000),
            (6000, 6000, 1, 200, 996000), (1, 1000000, 10 ** 9, 10 ** 9, 1000000),
        ):
            exchange = exchange_of(f"house a 0\ninstrument X {tick} 1 1000000 {reference}")
            split_shares(exchange, "X", numerator, denominator)
            self.assertEqual(exchange.market("X").reference, expected, (tick, reference, numerator, denominator))
            self.assertEqual(exchange.market("X").closing_reference(), expected)

    def test_the_units_of_fallen_houses_are_split_and_those_of_the_hall_are_not(self):
        exchange = funded()
        exchange.issue("a", "X", 4)
        exchange.owe("a", "c", 9999)
        trade(exchange, "a", "b", 3, 10)
        settle(exchange)
        hall = exchange.cash.balance("hall")
        self.assertEqual(split_shares(exchange, "X", 3, 8), [("a", 1, 5), ("b", 0, 0), ("c", 0, 0)])
        self.check_units(exchange, a_X=1, HALL_X=3, ISSUER_X=-4)
        self.check_cash(exchange, hall=hall)

    def test_no_more_than_may_be_paid_in(self):
        text = f"house a {MOST_PAID_IN - 100}\nhouse b 0\ninstrument X 1 1 1000000 1000"
        exchange = exchange_of(text)
        exchange.issue("a", "X", 1)
        self.refused_by(exchange, InvalidAmount, split_shares, "X", 1, 9)
        self.assertEqual(split_shares(exchange, "X", 1, 10), [("a", 0, 100), ("b", 0, 0)])
        self.check_cash(exchange, outside=-MOST_PAID_IN)
        exchange.issue("b", "X", 1)
        self.refused_by(exchange, InvalidAmount, split_shares, "X", 1, 10)
        split_shares(exchange, "X", 10, 1)
        self.check_units(exchange, b_X=10)
        exchange = exchange_of(text)
        exchange.issue("a", "X", 1)
        exchange.issue("b", "X", 1)
        self.refused_by(exchange, InvalidAmount, split_shares, "X", 1, 19)
        split_shares(exchange, "X", 1, 20)
        self.check_cash(exchange, outside=-MOST_PAID_IN)

    def test_errors_in_their_order(self):
        exchange = funded(FUNDED + "\ninstrument Y 1 1 1 1")
        exchange.order("a", "X", "buy", 10, 1)
        trade(exchange, "a", "b", 3, 11)
        for numerator, denominator in ((1, 1), (0, 1), (1, -1)):
            for symbol in ("", "ZZ", "x"):
                self.refused_by(exchange, UnknownName, split_shares, symbol, numerator, denominator)
            for symbol in ("X", "Y"):
                self.refused_by(exchange, WrongPhase, split_shares, symbol, numerator, denominator)
        settle(exchange)
        exchange.order("a", "X", "buy", 10, 1)
        for bad in (0,) + NO_AMOUNTS:
            self.refused_by(exchange, InvalidAmount, split_shares, "X", bad, 1)
            self.refused_by(exchange, InvalidAmount, split_shares, "X", 1, bad)
            self.refused_by(exchange, UnknownName, split_shares, "Z", bad, 1)
        split_shares(exchange, "X", 1, 1)
        self.assertEqual(exchange.market("X").queue(), [])

    def test_an_exchange_without_houses(self):
        exchange = exchange_of("instrument X 1 1 1 1")
        self.assertEqual(split_shares(exchange, "X", 1, 5), [])
        self.assertEqual(exchange.market("X").reference, 5)
        self.refused_by(exchange, InvalidAmount, split_shares, "X", 0, 1)

    def test_as_the_functions_for_lists_of_holdings_say(self):
        draw = random.Random(2)
        for _ in range(60):
            exchange = exchange_of()
            holdings = [(house, draw.choice([0, draw.randint(1, 60)])) for house in exchange.houses]
            for house, units in holdings:
                exchange.issue(house, "XY", units)
            cents, numerator, denominator = draw.randint(0, 9), draw.randint(1, 9), draw.randint(1, 9)
            self.assertEqual(pay_dividend(exchange, "XY", cents), dividend(holdings, cents))
            expected = share_split(holdings, numerator, denominator, 100)
            before = balances(exchange.cash)
            self.assertEqual(split_shares(exchange, "XY", numerator, denominator), expected)
            for house, units, extra in expected:
                self.assertEqual(exchange.units.balance(house + " XY"), units)
                self.assertEqual(exchange.cash.balance("cash " + house), before["cash " + house] + extra)
            self.assertEqual(exchange.units.balance("ISSUER XY"), -sum(row[1] for row in expected))


if __name__ == "__main__":
    unittest.main()
