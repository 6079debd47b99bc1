"""Long runs of drawn commands: what holds after each of them (points 0.4, 11.2, 11.3, 11.5 to 11.11, 11.14)."""

import random
import unittest

from fairbourse.day import pay_dividend, settle, split_shares
from fairbourse.errors import (
    BourseError, HouseFallen, InvalidAmount, InvalidOrder, MarginShort, OutOfBand, Overdrawn, UnknownName, WrongPhase,
)
from fairbourse.money import fee
from exchanges import ExchangeCase, balances, dump, exchange_of, fees_of
from naive_day import NaiveDay

HOUSES = ["a", "b", "c", "d"]
SYMBOLS = ["X", "YZ"]


def drawn_terms(draw):
    lines = [f"house {house} {draw.choice([200, 800, 4000])}" for house in HOUSES]
    lines += ["instrument X 1 1 4 20", "instrument YZ 2 3 10 40"]
    for _ in range(draw.choice([0, 1, 2, 3, 3])):
        lines.append(f"scenario {draw.randint(-9, 9)} {draw.randint(-9, 9)}")
    lines += [f"fee {draw.choice([0, 700, 30000, 1000000])}", f"skin {draw.choice([0, 20])}"]
    return "\n".join(lines)


def open_orders(exchange, house):
    """All open orders of a house, pairs (symbol, units), from the lists of the markets."""
    rows = []
    for symbol in exchange.symbols:
        market = exchange.market(symbol)
        quantities = [(row[2], row[4]) for row in market.queue() if row[1] == house]
        quantities += [(side, row[3]) for side in ("buy", "sell") for row in market.book.orders(side) if row[1] == house]
        quantities += [(row[2], row[5]) for row in market.book.stops() if row[1] == house]
        rows += [(symbol, quantity if side == "buy" else -quantity) for side, quantity in quantities]
    return rows


def bought_by_the_words(exchange, house, symbol):
    rows = [row for row in exchange.trades if row[2] == symbol]
    return sum(row[3] for row in rows if row[0] == house) - sum(row[3] for row in rows if row[1] == house)


def needed_by_the_words(exchange, house, scenarios, more=()):
    """Points 7.1 to 7.3 and 11.6, word by word."""
    needed = 0
    for moves in scenarios:
        move = dict(zip(exchange.symbols, moves))
        loss = -sum(bought_by_the_words(exchange, house, symbol) * move[symbol] for symbol in exchange.symbols)
        loss += sum(max(0, -units * move[symbol]) for symbol, units in open_orders(exchange, house) + list(more))
        needed = max(needed, loss)
    return needed


def free_by_the_words(exchange, house, symbol):
    """Point 11.7, word by word."""
    sold = max(0, -bought_by_the_words(exchange, house, symbol))
    offered = -sum(units for name, units in open_orders(exchange, house) if name == symbol and units < 0)
    return exchange.units.balance(house + " " + symbol) - sold - offered


def error_by_the_words(exchange, scenarios, house, symbol, side, price, quantity, kind, shown, trigger):
    """The first error of point 11.5 that an order or, with a trigger, a stop order has; or None."""
    if house not in exchange.houses:
        return UnknownName
    if house in exchange.fallen:
        return HouseFallen
    if symbol not in exchange.symbols:
        return UnknownName
    market = exchange.market(symbol)
    if trigger is not None and market.phase != "open":
        return WrongPhase
    parts = [side in ("buy", "sell"), kind in ("rest", "now", "all"), price is not None or kind != "rest",
             price is None or 1 <= price <= 10 ** 6, 1 <= quantity <= 10 ** 6, 0 <= shown <= quantity, shown == 0 or kind == "rest",
             trigger is None or 1 <= trigger <= 10 ** 6]
    call = market.phase == "open" or (shown == 0 and kind == ("now" if price is None else "rest"))
    steps = quantity % market.lot == 0 and shown % market.lot == 0 and (price is None or price % market.tick == 0)
    if not all(parts) or not call or not steps:
        return InvalidOrder
    if price is not None and abs(price - market.reference) > market.band:
        return OutOfBand
    if side == "sell" and quantity > free_by_the_words(exchange, house, symbol):
        return Overdrawn
    more = [(symbol, quantity if side == "buy" else -quantity)]
    if needed_by_the_words(exchange, house, scenarios, more) > exchange.cash.balance("margin " + house):
        return MarginShort
    return None


class Run:
    """An exchange, and what its commands have told so far."""

    def __init__(self, case, seed):
        self.case = case
        self.draw = random.Random(seed)
        text = drawn_terms(self.draw)
        self.scenarios = [[int(word) for word in line.split()[1:]] for line in text.split("\n") if line.startswith("scenario")]
        self.rate = [int(line.split()[1]) for line in text.split("\n") if line.startswith("fee")][0]
        self.exchange = exchange_of(text)
        self.paid_in = -self.exchange.cash.balance("outside")
        self.issued = {symbol: 0 for symbol in SYMBOLS}
        self.trades = []
        self.fees = {house: (0, 0) for house in HOUSES}
        self.done = {}
        for house in HOUSES:
            self.command("pledge", house, self.exchange.cash.balance("cash " + house) // 12)
            self.command("issue", house, "X", 10)
            self.command("issue", house, "YZ", 12)

    def attempt(self, function, *args, **more):
        """Call a command; an error must leave the exchange as it was. Returns the result and the error."""
        before = dump(self.exchange)
        try:
            result, error = function(*args, **more), None
        except BourseError as wrong:
            result, error = None, type(wrong)
            self.case.assertEqual(dump(self.exchange), before)
        name = function.__name__
        self.done[(name, error)] = self.done.get((name, error), 0) + 1
        self.check()
        return result, error

    def command(self, name, *args):
        return self.attempt(getattr(self.exchange, name), *args)

    def tell_trade(self, buyer, seller, symbol, units, price):
        if buyer != seller:
            self.trades.append((buyer, seller, symbol, units, price))
            for house in (buyer, seller):
                cents, carried = fee(units * price, self.rate, self.fees[house][1])
                self.fees[house] = (self.fees[house][0] + cents, carried)

    def check(self):
        """All that holds after every command."""
        case, exchange = self.case, self.exchange
        cash, units = balances(exchange.cash), balances(exchange.units)
        case.assertEqual(sum(cash.values()), 0)
        case.assertTrue(all(balance >= 0 for name, balance in cash.items() if name != "outside"))
        case.assertTrue(all(balance >= 0 for name, balance in units.items() if not name.startswith("ISSUER ")))
        for symbol in SYMBOLS:
            case.assertEqual(sum(balance for name, balance in units.items() if name.endswith(" " + symbol)), 0)
            book = exchange.market(symbol).book
            prices = (book.best("buy"), book.best("sell"))
            case.assertTrue(None in prices or prices[0] < prices[1])
            for house in HOUSES:
                case.assertGreaterEqual(free_by_the_words(exchange, house, symbol), 0)
                case.assertEqual(exchange.bought(house, symbol), bought_by_the_words(exchange, house, symbol))
        for house in HOUSES:
            needed = needed_by_the_words(exchange, house, self.scenarios)
            case.assertEqual(exchange.needed(house, [])[0], needed)
            if house not in exchange.fallen:
                case.assertGreaterEqual(cash["margin " + house], needed)

    def check_told(self):
        """The exchange holds what the commands have told."""
        exchange = self.exchange
        self.case.assertEqual(exchange.trades, self.trades)
        self.case.assertEqual(fees_of(exchange), self.fees)
        self.case.assertEqual(-exchange.cash.balance("outside"), self.paid_in)
        for symbol in SYMBOLS:
            self.case.assertEqual(-exchange.units.balance("ISSUER " + symbol), self.issued[symbol] + 12 * 4 - 8 * (symbol == "X"))

    def step(self):
        action = self.draw.choice([self.order] * 20 + [self.cancel] * 2 + [self.start] * 2 + [self.move] * 6 + [self.end])
        action()
        self.check_told()

    def order(self):
        draw = self.draw
        house, symbol = draw.choice(HOUSES * 12 + ["e"]), draw.choice(SYMBOLS * 20 + ["Z"])
        middle = 20 if symbol == "X" else 40
        side = draw.choice(["buy", "sell"] * 20 + ["both"])
        price = draw.choice([None] + [middle + draw.randint(-7, 7)] + [middle + 2 * draw.randint(-2, 2)] * 6)
        quantity = draw.choice([0, 1, 2] + [3, 6, 9] * 4 + [15, 30])
        if symbol in SYMBOLS and draw.random() < 0.25:
            trigger = middle + draw.randint(-4, 4)
            expected = error_by_the_words(self.exchange, self.scenarios, house, symbol, side, price, quantity,
                                          "rest" if price is not None else "now", 0, trigger)
            reports, error = self.command("stop", house, symbol, side, trigger, price, quantity)
        else:
            kind = draw.choice(["rest"] * 12 + ["now", "all"]) if price is not None else draw.choice(["now", "now", "all"])
            shown = draw.choice([0] * 8 + [1, 3, 3])
            expected = error_by_the_words(self.exchange, self.scenarios, house, symbol, side, price, quantity, kind, shown, None)
            reports, error = self.attempt(self.exchange.order, house, symbol, side, price, quantity, kind=kind, shown=shown)
        self.case.assertEqual(error, expected)
        for report in reports or []:
            for _, other, paid, units in report.fills:
                pair = (report.house, other) if report.side == "buy" else (other, report.house)
                self.tell_trade(*pair, symbol, units, paid)

    def cancel(self):
        self.command("cancel", self.draw.choice(HOUSES), self.draw.choice(SYMBOLS), self.draw.randint(1, 12))

    def start(self):
        symbol = self.draw.choice(SYMBOLS)
        known = len(self.exchange.trades)
        started, error = self.command("start", symbol)
        self.case.assertIn(error, (None, WrongPhase))
        if started is not None:
            market = self.exchange.market(symbol)
            self.case.assertEqual((market.phase, market.queue()), ("open", []))
            if started[1] > 0:
                self.case.assertEqual((market.reference, market.book.last), (started[0], started[0]))
            trades = self.exchange.trades[known:]
            self.case.assertLessEqual(len(trades), started[1])
            for buyer, seller, name, units, price in trades:
                self.case.assertEqual((name, price), (symbol, started[0]))
                self.tell_trade(buyer, seller, name, units, price)

    def move(self):
        draw = self.draw
        name = draw.choice(["deposit", "withdraw", "pledge", "pledge", "release", "issue", "owe"])
        house, cents = draw.choice(HOUSES), draw.choice([0, 1, draw.randint(0, 60), draw.randint(0, 400)])
        if name == "issue":
            symbol = draw.choice(SYMBOLS)
            if self.command("issue", house, symbol, cents % 8)[1] is None:
                self.issued[symbol] += cents % 8
        elif name == "owe":
            self.command("owe", house, draw.choice(HOUSES), cents)
        else:
            _, error = self.command(name, house, cents)
            if error is None:
                self.paid_in += {"deposit": cents, "withdraw": -cents}.get(name, 0)

    def end(self):
        draw = self.draw
        symbol = draw.choice(SYMBOLS)
        kind = draw.choice(["settle", "settle", "dividend", "split"])
        if kind == "settle":
            naive = NaiveDay(self.exchange)
            day, error = self.attempt(settle, self.exchange)
            self.case.assertIsNone(error)
            self.case.assertEqual((day.owed, day.pay, day.losses, day.fallen), (naive.owed, naive.pay, naive.losses, naive.fallen))
            self.case.assertEqual((balances(self.exchange.cash), balances(self.exchange.units)), (naive.cash, naive.units))
            self.trades = []
            self.fees = {house: (0, carried) for house, (_, carried) in self.fees.items()}
            return
        if self.exchange.trades:
            expected = WrongPhase
        else:
            expected = None
        if kind == "dividend":
            rows, error = self.attempt(pay_dividend, self.exchange, symbol, draw.randint(0, 3))
            self.paid_in += sum(row[1] for row in rows or [])
        else:
            before = self.exchange.units.balance("ISSUER " + symbol)
            rows, error = self.attempt(split_shares, self.exchange, symbol, draw.randint(1, 3), draw.randint(1, 3))
            self.paid_in += sum(row[2] for row in rows or [])
            self.issued[symbol] += before - self.exchange.units.balance("ISSUER " + symbol)
        self.case.assertIn(error, (expected, InvalidAmount))


class LongRunsTest(ExchangeCase):
    def test_long_runs(self):
        done = {}
        for seed in range(24):
            run = Run(self, seed)
            for _ in range(150):
                run.step()
            for key, many in run.done.items():
                done[key] = done.get(key, 0) + many
        for key in (("order", None), ("order", Overdrawn), ("order", MarginShort), ("order", OutOfBand), ("order", HouseFallen),
                    ("stop", None), ("stop", Overdrawn), ("stop", MarginShort), ("stop", WrongPhase), ("cancel", None),
                    ("release", MarginShort), ("settle", None), ("pay_dividend", None), ("pay_dividend", WrongPhase),
                    ("split_shares", None), ("split_shares", WrongPhase), ("owe", None), ("owe", InvalidAmount)):
            self.assertGreater(done.get(key, 0), 3, key)


if __name__ == "__main__":
    unittest.main()
