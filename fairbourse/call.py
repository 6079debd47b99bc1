"""A call: one price for many orders, which are tuples (number, house, side, price, quantity)."""

from fairbourse.pairing import pair_off
from fairbourse.parts import accepts, check_price, check_quantity, check_side


def call_price(orders, reference):
    """Return the call price and its volume."""
    _check_call(orders, reference)
    prices = _candidates(orders, reference)
    bought = _interests(orders, "buy", prices)
    sold = _interests(orders, "sell", prices)
    ranks = [
        (-min(bought[price], sold[price]), abs(bought[price] - sold[price]), abs(price - reference), price)
        for price in prices
    ]
    best = min(ranks)
    return best[3], -best[0]


def uncross(orders, reference):
    """Return the call price, the trades, and the orders that are left."""
    price, volume = call_price(orders, reference)
    bought = _served(orders, "buy", volume)
    sold = _served(orders, "sell", volume)
    trades = pair_off(list(bought.items()), list(sold.items()))
    return price, trades, _left(orders, {**bought, **sold})


def _check_call(orders, reference):
    for _, _, side, price, quantity in orders:
        check_side(side)
        if price is not None:
            check_price(price)
        check_quantity(quantity)
    check_price(reference)


def _candidates(orders, reference):
    """Return prices among which the call price is.

    Volume and surplus change only where an order begins or ceases to accept the price. Of the prices between
    two such places only the first, the last and the reference price can be the nearest to the reference price.
    """
    limits = [(side, price) for _, _, side, price, _ in orders if price is not None]
    bounds = [reference] + [price for _, price in limits]
    beyond = [price + 1 if side == "buy" else price - 1 for side, price in limits]
    least = min(bounds)
    most = max(bounds)
    return [price for price in sorted(set(bounds + beyond)) if least <= price <= most]


def _rank(side, price):
    """Return the place of a price in the priority of a side; no price goes first."""
    if price is None:
        return (0, 0)
    return (1, -price) if side == "buy" else (1, price)


def _ranked(orders, side):
    """Return the number, the price and the quantity of each order of a side, in the order of the service."""
    rows = [(number, price, quantity) for number, _, of_side, price, quantity in orders if of_side == side]
    return sorted(rows, key=lambda row: _rank(side, row[1]))


def _interests(orders, side, prices):
    """Return the interest of a side at each price."""
    ranked = _ranked(orders, side)
    interests = {}
    interest = 0
    at = 0
    # In this order of the prices, an order that accepts one of them accepts all later ones.
    for price in sorted(prices, key=lambda limit: _rank(side, limit)):
        while at < len(ranked) and accepts(side, ranked[at][1], price):
            interest += ranked[at][2]
            at += 1
        interests[price] = interest
    return interests


def _served(orders, side, volume):
    """Return what the orders of a side trade, by their numbers, in the order of the service."""
    served = {}
    rest = volume
    # Orders that accept the call price are served first, and they suffice for the volume.
    for number, _, quantity in _ranked(orders, side):
        if rest > 0:
            served[number] = min(quantity, rest)
            rest -= served[number]
    return served


def _left(orders, traded):
    """Return the orders with a price that still have some quantity, with that quantity."""
    left = []
    for number, house, side, price, quantity in orders:
        rest = quantity - traded.get(number, 0)
        if price is not None and rest > 0:
            left.append((number, house, side, price, rest))
    return left
