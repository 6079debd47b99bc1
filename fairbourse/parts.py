"""The parts of an order: what they may be, and which prices an order accepts."""

from fairbourse.errors import InvalidOrder
from fairbourse.integers import is_within

SIDES = ("buy", "sell")
KINDS = ("rest", "now", "all")
MOST = 1000000


def other_side(side):
    """Return the side that a side trades with."""
    return "sell" if side == "buy" else "buy"


def accepts(side, limit, price):
    """Tell whether an order with this side and limit accepts a price; no limit accepts every price."""
    if limit is None:
        return True
    return price <= limit if side == "buy" else price >= limit


def check_house(house):
    """Raise InvalidOrder unless a house can have this name."""
    if house == "":
        raise InvalidOrder("the name of a house is not empty")


def check_side(side):
    """Raise InvalidOrder unless there is such a side."""
    if side not in SIDES:
        raise InvalidOrder("there is no such side")


def check_number(number, least, most):
    """Raise InvalidOrder unless this is an integer from `least` to `most`."""
    if not is_within(least, most, number):
        raise InvalidOrder("a part of the order is out of range")


def check_price(price):
    """Raise InvalidOrder unless an order can have this price."""
    check_number(price, 1, MOST)


def check_quantity(quantity):
    """Raise InvalidOrder unless an order can have this quantity."""
    check_number(quantity, 1, MOST)


def check_order(house, side, price, quantity, kind, shown):
    """Raise InvalidOrder unless these parts make an order."""
    check_house(house)
    check_side(side)
    if kind not in KINDS:
        raise InvalidOrder("there is no such kind")
    if price is not None:
        check_price(price)
    elif kind == "rest":
        raise InvalidOrder("a market order cannot rest")
    check_quantity(quantity)
    check_number(shown, 0, quantity)
    if shown > 0 and kind != "rest":
        raise InvalidOrder("only an order that rests can hide a part")


def check_stop(house, side, trigger, price, quantity):
    """Raise InvalidOrder unless these parts make a stop order."""
    check_house(house)
    check_side(side)
    check_price(trigger)
    if price is not None:
        check_price(price)
    check_quantity(quantity)
