"""The days of an exchange: settlements, dividends and splits. These functions change the exchange."""

from fairbourse.accounts import (
    HALL, OUTSIDE, SKIN, cash_of, check_paid_in, fund_of, hall_units_of, issuer_of, margin_of, units_of,
)
from fairbourse.corporate import dividend, share_split
from fairbourse.errors import WrongPhase
from fairbourse.netting import nets
from fairbourse.parts import MOST
from fairbourse.settle import cash_after, clearing, fallen, receipts
from fairbourse.waterfall import bear, tiers_of


class Day:
    """What a settlement did."""

    def __init__(self, owed, pay, losses, failed):
        self.owed = owed
        self.pay = pay
        self.losses = losses
        self.fallen = failed


def settle(exchange):
    """Settle all trades, fees and debts; return the day."""
    owed = _debts_of(exchange)
    # A debt above the bound raises its error here, before anything has changed.
    losses = _bear_losses(exchange, owed)
    pay = _pay_debts(exchange, owed)
    # The hall has the last place; it is no house, so it does not fall.
    failed = [exchange.houses[at] for at in fallen(owed, pay) if at < len(exchange.houses)]
    _deliver(exchange, failed)
    exchange.trades = []
    exchange.debts = []
    exchange.fees.close()
    exchange.fallen = sorted(exchange.fallen + failed)
    for symbol in exchange.symbols:
        exchange.market(symbol).close()
    return Day(owed, pay, losses, failed)


def _debts_of(exchange):
    """Return the table of the debts of the houses and, at the last place, of the hall."""
    houses = exchange.houses
    hall = len(houses)
    owed = [[0] * (hall + 1) for _ in range(hall + 1)]
    trades = [(buyer, seller, units, units * price) for buyer, seller, _, units, price in exchange.trades]
    for house, _, cents in nets(trades):
        at = houses.index(house)
        owed[at][hall] = max(0, -cents)
        owed[hall][at] = max(0, cents)
    for at, house in enumerate(houses):
        owed[at][hall] += exchange.fees.owed_by(house)
    for debtor, creditor, cents in exchange.debts:
        owed[houses.index(debtor)][houses.index(creditor)] += cents
    return owed


def _bear_losses(exchange, owed):
    """Let the tiers pay to the hall what the houses fail to pay if the hall can pay all; return the losses."""
    hall = len(exchange.houses)
    cash = [exchange.cash.balance(cash_of(house)) for house in exchange.houses]
    pay = clearing(owed, cash + [sum(owed[hall])])
    paid = receipts(owed, pay)
    return [_bear_loss(exchange, at, owed[at][hall] - paid[at][hall]) for at in fallen(owed, pay)]


def _bear_loss(exchange, at, loss):
    """Let the tiers bear the loss that the house with this index makes; return the row of the loss."""
    ledger = exchange.cash
    house = exchange.houses[at]
    shares = [ledger.balance(fund_of(name)) for name in exchange.houses]
    tiers = tiers_of(at, ledger.balance(margin_of(house)), shares, ledger.balance(SKIN))
    borne, left = bear(loss, tiers[:4])
    moves = [(margin_of(house), -borne[0][0]), (fund_of(house), -borne[1][0]), (SKIN, -borne[2][0])]
    moves.extend([(fund_of(name), -cents) for name, cents in zip(exchange.houses, borne[3])])
    ledger.post(moves + [(HALL, loss - left)])
    return house, [sum(parts) for parts in borne], left


def _pay_debts(exchange, owed):
    """Post the greatest payments that the houses and the hall can make; return them."""
    accounts = [cash_of(house) for house in exchange.houses] + [HALL]
    cash = [exchange.cash.balance(name) for name in accounts]
    pay = clearing(owed, cash)
    after = cash_after(owed, cash, pay)
    exchange.cash.post([(name, new - old) for name, old, new in zip(accounts, cash, after)])
    return pay


def _deliver(exchange, failed):
    """Deliver all traded units; the hall takes what a house that has failed would receive."""
    for symbol in exchange.symbols:
        trades = [(buyer, seller, units, 0) for buyer, seller, name, units, _ in exchange.trades if name == symbol]
        moves = []
        for house, units, _ in nets(trades):
            to_hall = units > 0 and house in failed
            moves.append((hall_units_of(symbol) if to_hall else units_of(house, symbol), units))
        if moves:
            exchange.units.post(moves)


def pay_dividend(exchange, symbol, cents):
    """Pay each house the cents for each of its units; return what `dividend` returns."""
    exchange.market(symbol)
    _check_settled(exchange)
    rows = dividend(_holdings(exchange, symbol), cents)
    _pay_in(exchange, rows)
    return rows


def split_shares(exchange, symbol, numerator, denominator):
    """Split the units of all houses and close the market; return what `share_split` returns."""
    market = exchange.market(symbol)
    _check_settled(exchange)
    holdings = _holdings(exchange, symbol)
    price = market.closing_reference()
    rows = share_split(holdings, numerator, denominator, price)
    _pay_in(exchange, [(house, cents) for house, _, cents in rows])
    moves = [(units_of(house, symbol), new - old) for (house, old), (_, new, _) in zip(holdings, rows)]
    exchange.units.post(moves + [(issuer_of(symbol), -sum([units for _, units in moves]))])
    market.close()
    market.reference = _price_after_split(price, numerator, denominator, market.tick)
    return rows


def _price_after_split(price, numerator, denominator, tick):
    greatest = min(MOST, price * denominator // numerator)
    return max(tick, greatest // tick * tick)


def _check_settled(exchange):
    if exchange.trades:
        raise WrongPhase("a trade is not settled")


def _holdings(exchange, symbol):
    """Return a tuple (house, units) for each house."""
    return [(house, exchange.units.balance(units_of(house, symbol))) for house in exchange.houses]


def _pay_in(exchange, rows):
    """Pay each house its cents from outside; rows are tuples (house, cents)."""
    total = sum([cents for _, cents in rows])
    check_paid_in(exchange.cash, total)
    exchange.cash.post([(OUTSIDE, -total)] + [(cash_of(house), cents) for house, cents in rows])
