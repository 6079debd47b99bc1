"""Exchanges for the tests, and all that can be seen of them."""

from fairbourse.exchange import Exchange
from fairbourse.terms import parse_terms
from support import BourseCase

MOST_PAID_IN = 10 ** 9
NO_AMOUNTS = (-1, -10 ** 30, True, False, None, "5", 1.0)
PLAIN = """house alder 100000
house birch 200000
house cedar 50
instrument ABC 5 10 200 1000
instrument XY 1 1 50 100
scenario -20 10
scenario 20 -5
fund alder 1000
fund birch 500
fee 3000
skin 700
"""
FREE = "\n".join([
    "house alder 100000000", "house birch 100000000", "house cedar 100000000", "instrument ABC 1 1 1000000 100",
    "instrument XY 1 1 1000000 100",
])


def exchange_of(text=PLAIN):
    return Exchange(parse_terms(text))


def dump(thing):
    """Everything that an object holds, as plain values."""
    if isinstance(thing, dict):
        return [(dump(key), dump(value)) for key, value in thing.items()]
    if isinstance(thing, (list, tuple)):
        return [type(thing).__name__] + [dump(part) for part in thing]
    if hasattr(thing, "__dict__"):
        return [type(thing).__name__, dump(vars(thing))]
    return thing


def balances(ledger):
    return {name: ledger.balance(name) for name in ledger.accounts()}


def fees_of(exchange):
    """What each house owes as fees, and its carried millionths."""
    return {house: (cents, carried) for house, cents, carried in exchange.fees.rows()}


class ExchangeCase(BourseCase):
    def refused(self, exchange, error, command, *args, **more):
        """The command of the exchange raises exactly this error and changes nothing."""
        before = dump(exchange)
        self.raises(error, getattr(exchange, command), *args, **more)
        self.assertEqual(dump(exchange), before)

    def refused_by(self, exchange, error, function, *args):
        """The function of `fairbourse.day` raises exactly this error and changes nothing."""
        before = dump(exchange)
        self.raises(error, function, exchange, *args)
        self.assertEqual(dump(exchange), before)

    def check_cash(self, exchange, **expected):
        """The accounts have these balances; `cash_alder` is the account `cash alder`."""
        for name, balance in expected.items():
            self.assertEqual(exchange.cash.balance(name.replace("_", " ")), balance, name)

    def check_units(self, exchange, **expected):
        for name, balance in expected.items():
            self.assertEqual(exchange.units.balance(name.replace("_", " ")), balance, name)
