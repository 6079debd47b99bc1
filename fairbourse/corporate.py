"""Corporate actions: dividends and splits. Holdings are a list of tuples (house, units)."""

from fairbourse.errors import InvalidAmount
from fairbourse.integers import is_integral


def dividend(holdings, cents):
    """Return a tuple (house, cents) for each house: its units times the cents."""
    _check_holdings(holdings)
    _check_number(cents, 0)
    return [(house, units * cents) for house, units in holdings]


def share_split(holdings, numerator, denominator, price):
    """Return a tuple (house, new units, cents for the remainder) for each house."""
    _check_holdings(holdings)
    for number in (numerator, denominator, price):
        _check_number(number, 1)
    rows = []
    for house, units in holdings:
        whole, rest = divmod(units * numerator, denominator)
        rows.append((house, whole, rest * price // denominator))
    return rows


def _check_holdings(holdings):
    for _, units in holdings:
        _check_number(units, 0)


def _check_number(number, least):
    if not is_integral(number) or number < least:
        raise InvalidAmount("a number is out of range")
