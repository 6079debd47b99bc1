"""Settlement: the greatest payments that the houses can make, and the delivery of units.

Debts are a square table: `owed[a][b]` is what `a` owes `b`. Payments are a list: what each house pays in all.
"""

from fairbourse.errors import InvalidAmount, InvalidTrade
from fairbourse.integers import is_within
from fairbourse.money import split
from fairbourse.netting import check_debts

MOST_HELD = 100000000000000000


def receipts(owed, pay):
    """Return a table: row `a` is what each house receives from `a`."""
    return [split(amount, debts) for amount, debts in zip(pay, owed)]


def received(owed, pay):
    """Return what each house receives in all."""
    table = receipts(owed, pay)
    return [sum([row[house] for row in table]) for house in range(len(owed))]


def round_of(owed, cash, pay):
    """Return what each house can pay if the houses pay these amounts."""
    income = received(owed, pay)
    return [min(sum(debts), held + got) for debts, held, got in zip(owed, cash, income)]


def clearing(owed, cash):
    """Return the greatest payments that stand."""
    check_debts(owed)
    _check_held(cash, len(owed))
    pay = [sum(debts) for debts in owed]
    lower = _after_rounds(owed, cash, pay)
    while lower != pay:
        # Where a ring of debts loses little in each round, rounds alone could go on for longer than anybody waits.
        pay = _leap(owed, cash, lower, [old - new for old, new in zip(pay, lower)])
        lower = _after_rounds(owed, cash, pay)
    return pay


def _after_rounds(owed, cash, pay):
    """Return the payments behind some rounds."""
    for _ in range(2 * len(owed)):
        pay = round_of(owed, cash, pay)
    return pay


def _leap(owed, cash, pay, drop):
    """Return payments that are lower by as many times the drop as is safe, for the rounds to go on from there."""
    reached = pay
    times = 1
    while True:
        found = _raised(owed, cash, [max(0, amount - times * fall) for amount, fall in zip(pay, drop)])
        if found is None or found == reached:
            return reached
        reached = found
        times *= 2


def _raised(owed, cash, pay):
    """Return payments from these ones up that are surely nowhere below the greatest ones that stand, or None."""
    for _ in range(4 * len(owed)):
        able = round_of(owed, cash, pay)
        if all([amount >= most for amount, most in zip(pay, able)]):
            return None if _may_rise(owed, pay, able) else pay
        pay = [max(amount, most) for amount, most in zip(pay, able)]
    return None


def _may_rise(owed, pay, able):
    """Tell whether other payments may stand that are somewhere greater, if nobody can pay more than it pays here.

    Houses that pay more there receive all that they pay more from each other. So each of them pays here just what it
    can, and its next cent goes to one of them: whoever follows the next cents of such houses comes round in a ring.
    """
    following = {}
    for house, debts in enumerate(owed):
        if pay[house] == able[house] and pay[house] < sum(debts):
            following[house] = _next_creditor(debts, pay[house])
    for start in following:
        house = start
        for _ in owed:
            house = following.get(house)
        if house is not None:
            return True
    return False


def _next_creditor(debts, amount):
    """Return who gets one cent more if this amount grows by a cent."""
    parts = split(amount, debts)
    more = split(amount + 1, debts)
    return [creditor for creditor in range(len(debts)) if more[creditor] > parts[creditor]][0]


def cash_after(owed, cash, pay):
    """Return the cash of each house after the payments."""
    income = received(owed, pay)
    return [held + got - paid for held, got, paid in zip(cash, income, pay)]


def fallen(owed, pay):
    """Return the houses that pay less than they owe, in ascending order."""
    return [house for house, debts in enumerate(owed) if pay[house] < sum(debts)]


def missing(owed, delivered):
    """Return the table of what is owed and not delivered."""
    return [[debt - got for debt, got in zip(debts, parts)] for debts, parts in zip(owed, delivered)]


class Delivery:
    """The delivery of the units of one instrument."""

    def __init__(self, owed, held, price):
        if price < 0:
            raise InvalidTrade("the price is below 0")
        pay = clearing(owed, held)
        self.delivered = receipts(owed, pay)
        self.missing = missing(owed, self.delivered)
        self.held = cash_after(owed, held, pay)
        self.price = price


class Settlement:
    """The payment of debts in cents, behind the deliveries of a day."""

    def __init__(self, deliveries, owed, cash):
        self.deliveries = list(deliveries)
        self.owed = [list(debts) for debts in owed]
        self.pay = clearing(owed, cash)
        self.paid = receipts(owed, self.pay)
        self.cash = cash_after(owed, cash, self.pay)
        self.fallen = fallen(owed, self.pay)


def settle_day(instruments, owed, cash):
    """Deliver the instruments, tuples (units owed, units held, price), and pay; return the settlement."""
    check_debts(owed)
    _check_held(cash, len(owed))
    deliveries = []
    debts = owed
    for units, held, price in instruments:
        if len(units) != len(owed):
            raise InvalidTrade("the units are owed by another number of houses")
        delivery = Delivery(units, held, price)
        deliveries.append(delivery)
        debts = _with_missing(debts, delivery)
    return Settlement(deliveries, debts, cash)


def _with_missing(owed, delivery):
    """Return the debts with the price of each missing unit added."""
    bought_in = [[units * delivery.price for units in row] for row in delivery.missing]
    return [[debt + cents for debt, cents in zip(debts, row)] for debts, row in zip(owed, bought_in)]


def _check_held(amounts, houses):
    """Raise InvalidAmount unless there is one amount that can be held for each house."""
    if len(amounts) != houses:
        raise InvalidAmount("there is not one amount for each house")
    if not all([is_within(0, MOST_HELD, amount) for amount in amounts]):
        raise InvalidAmount("an amount is out of range")
