"""The accounts of an exchange: their names, and both ledgers at the start."""

from fairbourse.errors import InvalidAmount
from fairbourse.integers import is_within
from fairbourse.ledger import Ledger

OUTSIDE = "outside"
HALL = "hall"
SKIN = "skin"
MOST_PAID_IN = 1000000000


def cash_of(house):
    """Return the name of the cash account of a house."""
    return f"cash {house}"


def margin_of(house):
    """Return the name of the margin account of a house."""
    return f"margin {house}"


def fund_of(house):
    """Return the name of the account of a house's share of the fund."""
    return f"fund {house}"


def units_of(house, symbol):
    """Return the name of the account of a house's units."""
    return f"{house} {symbol}"


def hall_units_of(symbol):
    """Return the name of the account of the hall's units."""
    return f"HALL {symbol}"


def issuer_of(symbol):
    """Return the name of the account that units come from."""
    return f"ISSUER {symbol}"


def check_paid_in(ledger, cents):
    """Raise InvalidAmount unless this amount can be paid in from outside."""
    if not is_within(0, MOST_PAID_IN + ledger.balance(OUTSIDE), cents):
        raise InvalidAmount("this amount cannot be paid in")


def cash_ledger(terms):
    """Return the ledger of cash as the terms tell it."""
    ledger = Ledger()
    ledger.open_account(OUTSIDE, may_owe=True)
    ledger.open_account(HALL)
    ledger.open_account(SKIN)
    for house, _ in terms.houses:
        for name in (cash_of(house), margin_of(house), fund_of(house)):
            ledger.open_account(name)
    check_paid_in(ledger, terms.skin + sum([cents for _, cents in terms.houses]))
    ledger.transfer(OUTSIDE, SKIN, terms.skin)
    for house, cents in terms.houses:
        ledger.transfer(OUTSIDE, cash_of(house), cents)
    for house, share in terms.fund:
        ledger.transfer(cash_of(house), fund_of(house), share)
    return ledger


def units_ledger(houses, symbols):
    """Return the ledger of units without any units."""
    ledger = Ledger()
    for symbol in symbols:
        ledger.open_account(issuer_of(symbol), may_owe=True)
        ledger.open_account(hall_units_of(symbol))
        for house in houses:
            ledger.open_account(units_of(house, symbol))
    return ledger
