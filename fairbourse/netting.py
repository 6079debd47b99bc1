"""Netting of trades and of debts.

A trade is a tuple (buyer, seller, units, cents). Debts are a square table: `owed[a][b]` is what `a` owes `b`.
"""

from fairbourse.errors import InvalidTrade
from fairbourse.integers import is_integral, is_within
from fairbourse.pairing import pair_off

MOST_HOUSES = 13
MOST_DEBT = 1000000000000000


def nets(trades):
    """Return a tuple (house, net units, net cents) for each house of the trades, in ascending order."""
    _check_trades(trades)
    units = {}
    cents = {}
    for buyer, seller, bought, paid in trades:
        units[buyer] = units.get(buyer, 0) + bought
        units[seller] = units.get(seller, 0) - bought
        cents[buyer] = cents.get(buyer, 0) - paid
        cents[seller] = cents.get(seller, 0) + paid
    return [(house, units[house], cents[house]) for house in sorted(units)]


def novate(trades, center):
    """Return for each trade the one between buyer and center, then the one between center and seller."""
    _check_trades(trades)
    novated = []
    for buyer, seller, units, cents in trades:
        if center in (buyer, seller):
            raise InvalidTrade("the center has the name of a house")
        novated.append((buyer, center, units, cents))
        novated.append((center, seller, units, cents))
    return novated


def check_debts(owed):
    """Raise InvalidTrade unless this is a table of debts."""
    if not 1 <= len(owed) <= MOST_HOUSES:
        raise InvalidTrade("there must be 1 to 13 houses")
    for house, row in enumerate(owed):
        if len(row) != len(owed):
            raise InvalidTrade("a row has another length than the table")
        if not all([is_within(0, MOST_DEBT, debt) for debt in row]):
            raise InvalidTrade("a debt is out of range")
        if row[house] != 0:
            raise InvalidTrade("a house owes something to itself")


def net_amounts(owed):
    """Return what each house is owed less what it owes."""
    check_debts(owed)
    return [sum([row[house] for row in owed]) - sum(owed[house]) for house in range(len(owed))]


def bilateral(owed):
    """Return the debts with the two of each pair set off against each other."""
    check_debts(owed)
    houses = range(len(owed))
    return [[max(0, owed[debtor][creditor] - owed[creditor][debtor]) for creditor in houses] for debtor in houses]


def compress(owed):
    """Return payments (payer, receiver, amount) that give each house its net amount."""
    amounts = net_amounts(owed)
    payers = [(house, -amount) for house, amount in enumerate(amounts) if amount < 0]
    receivers = [(house, amount) for house, amount in enumerate(amounts) if amount > 0]
    return pair_off(payers, receivers)


def unwind(owed):
    """Return the debts without their rings, and all houses in an order in which each owes only later ones."""
    check_debts(owed)
    debts = [list(row) for row in owed]
    order = []
    waiting = list(range(len(owed)))
    while waiting:
        house = _first_unowed(debts, waiting)
        if house is None:
            debts = _without_ring(debts, _ring_among(debts, waiting))
        else:
            order.append(house)
            waiting.remove(house)
    return debts, order


def _check_trades(trades):
    for buyer, seller, units, cents in trades:
        if "" in (buyer, seller) or buyer == seller:
            raise InvalidTrade("a trade needs two houses")
        if not is_integral(units) or units < 1:
            raise InvalidTrade("a trade has at least 1 unit")
        if not is_integral(cents) or cents < 0:
            raise InvalidTrade("a trade has at least 0 cents")


def _first_unowed(debts, houses):
    """Return the first of the houses that none of them owes anything, or None."""
    for house in houses:
        if _first_debtor(debts, houses, house) is None:
            return house
    return None


def _first_debtor(debts, houses, creditor):
    """Return the first of the houses that owes the creditor something, or None."""
    for debtor in houses:
        if debts[debtor][creditor] > 0:
            return debtor
    return None


def _ring_among(debts, houses):
    """Return the pairs (debtor, creditor) of a ring; one of the houses owes something to each of them."""
    path = [houses[0]]
    debtor = _first_debtor(debts, houses, houses[0])
    while debtor not in path:
        path.append(debtor)
        debtor = _first_debtor(debts, houses, debtor)
    ring = path[path.index(debtor):]
    return list(zip(ring[1:] + ring[:1], ring))


def _without_ring(debts, ring):
    """Return the debts with all debts of a ring reduced by the least of them."""
    least = min([debts[debtor][creditor] for debtor, creditor in ring])
    reduced = [list(row) for row in debts]
    for debtor, creditor in ring:
        reduced[debtor][creditor] -= least
    return reduced
