"""The exchange: houses with cash and units, markets, and what is not settled yet."""

from fairbourse.accounts import (
    OUTSIDE, cash_ledger, cash_of, check_paid_in, issuer_of, margin_of, units_ledger, units_of,
)
from fairbourse.errors import HouseFallen, InvalidAmount, MarginShort, Overdrawn, UnknownName
from fairbourse.fees import Fees
from fairbourse.integers import is_integral, is_within
from fairbourse.margin import order_requirement
from fairbourse.market import Market

MOST_OWED = 9999


class Exchange:
    """An exchange that is made from terms."""

    def __init__(self, terms):
        self.houses = sorted([name for name, _ in terms.houses])
        self.symbols = sorted([row[0] for row in terms.instruments])
        self.cash = cash_ledger(terms)
        self.units = units_ledger(self.houses, self.symbols)
        self.trades = []
        self.debts = []
        self.fallen = []
        self.fees = Fees(self.houses, terms.fee)
        self._markets = {
            name: Market(tick, lot, band, reference) for name, tick, lot, band, reference in terms.instruments
        }
        self._scenarios = [list(moves) for moves in terms.scenarios]

    def deposit(self, house, cents):
        """Pay in cash from outside."""
        self._check_house(house)
        check_paid_in(self.cash, cents)
        self.cash.transfer(OUTSIDE, cash_of(house), cents)

    def withdraw(self, house, cents):
        """Pay out cash."""
        self._check_house(house)
        self.cash.transfer(cash_of(house), OUTSIDE, cents)

    def pledge(self, house, cents):
        """Turn cash into margin."""
        self._check_house(house)
        self.cash.transfer(cash_of(house), margin_of(house), cents)

    def release(self, house, cents):
        """Turn margin that is not needed into cash."""
        self._check_house(house)
        if not is_integral(cents) or cents < 0:
            raise InvalidAmount("the amount is not an integer from 0 up")
        if self.cash.balance(margin_of(house)) - cents < self.needed(house, [])[0]:
            raise MarginShort("the margin is needed")
        self.cash.transfer(margin_of(house), cash_of(house), cents)

    def issue(self, house, symbol, units):
        """Give new units to a house."""
        self._check_house(house)
        self._check_symbol(symbol)
        self.units.transfer(issuer_of(symbol), units_of(house, symbol), units)

    def owe(self, debtor, creditor, cents):
        """Register a debt of one house to another one."""
        self._check_house(debtor)
        self._check_house(creditor)
        registered = sum([row[2] for row in self.debts if row[0] == debtor and row[1] == creditor])
        if debtor == creditor or not is_within(1, MOST_OWED - registered, cents):
            raise InvalidAmount("this is no debt that can be registered")
        self.debts.append((debtor, creditor, cents))

    def order(self, house, symbol, side, price, quantity, *, kind="rest", shown=0):
        """Give an order; return the list of reports."""
        self._check_house(house)
        market = self.market(symbol)
        market.check_new_order(house, side, price, quantity, kind=kind, shown=shown)
        self._check_cover(house, symbol, side, quantity)
        reports = market.submit(house, side, price, quantity, kind=kind, shown=shown)
        self._record_fills(symbol, reports)
        return reports

    def stop(self, house, symbol, side, trigger, price, quantity):
        """Give a stop order; return the list of reports."""
        self._check_house(house)
        market = self.market(symbol)
        market.check_new_stop(house, side, trigger, price, quantity)
        self._check_cover(house, symbol, side, quantity)
        reports = market.submit_stop(house, side, trigger, price, quantity)
        self._record_fills(symbol, reports)
        return reports

    def cancel(self, house, symbol, number):
        """Remove an order; return the quantity that was left."""
        self._check_house(house)
        return self.market(symbol).cancel(number, house)

    def start(self, symbol):
        """End the call of a market; return the call price and the number of all trades of the call."""
        price, trades = self.market(symbol).start()
        for buyer, seller, units in trades:
            if buyer != seller:
                self._record_trade(buyer, seller, symbol, units, price)
        return price, len(trades)

    def market(self, symbol):
        """Return the market of an instrument."""
        self._check_symbol(symbol)
        return self._markets[symbol]

    def bought(self, house, symbol):
        """Return the unsettled units of a house: what it bought minus what it sold."""
        rows = [(buyer, seller, units) for buyer, seller, name, units, _ in self.trades if name == symbol]
        bought = sum([units for buyer, _, units in rows if buyer == house])
        return bought - sum([units for _, seller, units in rows if seller == house])

    def needed(self, house, extra):
        """Return the needed margin and the index of its scenario, with further orders (index, units)."""
        positions = [self.bought(house, symbol) for symbol in self.symbols]
        orders = list(extra)
        for index, symbol in enumerate(self.symbols):
            market = self._markets[symbol]
            orders.extend([(index, units) for units in market.open_quantities(house, "buy")])
            orders.extend([(index, -units) for units in market.open_quantities(house, "sell")])
        return order_requirement(positions, orders, self._scenarios)

    def _check_house(self, house):
        """Raise the error of a house that gives no commands."""
        if house not in self.houses:
            raise UnknownName("there is no such house")
        if house in self.fallen:
            raise HouseFallen("the house has fallen")

    def _check_symbol(self, symbol):
        if symbol not in self._markets:
            raise UnknownName("there is no such instrument")

    def _check_cover(self, house, symbol, side, quantity):
        """Raise an error unless a house has the units and the margin for a whole new order."""
        if side == "sell" and quantity > self._free_units(house, symbol):
            raise Overdrawn("the house has too few free units")
        units = quantity if side == "buy" else -quantity
        needed, _ = self.needed(house, [(self.symbols.index(symbol), units)])
        if needed > self.cash.balance(margin_of(house)):
            raise MarginShort("the house has too little margin")

    def _free_units(self, house, symbol):
        """Return the units of a house that it has neither sold nor offered."""
        sold = max(0, -self.bought(house, symbol))
        offered = sum(self._markets[symbol].open_quantities(house, "sell"))
        return self.units.balance(units_of(house, symbol)) - sold - offered

    def _record_fills(self, symbol, reports):
        for report in reports:
            for _, house, price, units in report.fills:
                if report.side == "buy":
                    self._record_trade(report.house, house, symbol, units, price)
                else:
                    self._record_trade(house, report.house, symbol, units, price)

    def _record_trade(self, buyer, seller, symbol, units, price):
        """Record a trade, for which both houses owe a fee."""
        self.trades.append((buyer, seller, symbol, units, price))
        for house in (buyer, seller):
            self.fees.charge(house, units * price)
