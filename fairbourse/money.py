"""Amounts of money: dividing them, fees, and their written form."""

from fairbourse.errors import InvalidAmount, InvalidWeights
from fairbourse.words import is_digits

MOST_AMOUNT = 1000000000000000000
MOST_DEALT = 9999
MOST_WEIGHTS = 40
MOST_WEIGHT = 1000000000000000
MILLION = 1000000
MOST_WRITTEN = 1000000000000


def _check_amount(amount, most):
    # The message leaves the number out: Python cannot write integers of thousands of digits.
    if not 0 <= amount <= most:
        raise InvalidAmount("the amount is out of range")


def _check_weights(weights, amount):
    if not 1 <= len(weights) <= MOST_WEIGHTS:
        raise InvalidWeights("there must be 1 to 40 weights")
    if not all([0 <= weight <= MOST_WEIGHT for weight in weights]):
        raise InvalidWeights("a weight is out of range")
    if amount > 0 and sum(weights) == 0:
        raise InvalidWeights("all weights are zero")


def split(amount, weights):
    """Divide an amount by weights; return the list of the parts."""
    _check_amount(amount, MOST_AMOUNT)
    _check_weights(weights, amount)
    total = sum(weights)
    if total == 0:
        return [0] * len(weights)
    parts = [amount * weight // total for weight in weights]
    for _ in range(amount - sum(parts)):
        parts[_greatest_quotient(weights, parts)] += 1
    return parts


def _greatest_quotient(weights, parts):
    """Return the first index with the greatest quotient of its weight and its part plus one."""
    best = 0
    for at in range(1, len(weights)):
        if weights[at] * (parts[best] + 1) > weights[best] * (parts[at] + 1):
            best = at
    return best


def deal_order(amount, weights):
    """Give out cents one by one; return the list of the indexes that get them, in order."""
    _check_amount(amount, MOST_DEALT)
    _check_weights(weights, amount)
    total = sum(weights)
    parts = [0] * len(weights)
    order = []
    for number in range(1, amount + 1):
        at = _first_due(number, weights, parts, total)
        parts[at] += 1
        order.append(at)
    return order


def _first_due(number, weights, parts, total):
    """Return the eligible index whose next cent is due first, when cent `number` is given."""
    due = [
        (_due(weight, parts[at], total), at)
        for at, weight in enumerate(weights)
        if parts[at] * total < number * weight
    ]
    return min(due)[1]


def _due(weight, part, total):
    """Return the least number of cents at which the floor of the exact share is the part plus one."""
    return ((part + 1) * total + weight - 1) // weight


def deal(amount, weights):
    """Give out cents one by one; return the list of how many each index gets."""
    parts = [0] * len(weights)
    for at in deal_order(amount, weights):
        parts[at] += 1
    return parts


def fee(amount, rate, carried=0):
    """Return the fee in whole cents, and the millionths that are carried to the next fee."""
    _check_amount(amount, MOST_AMOUNT)
    _check_amount(rate, MILLION)
    _check_amount(carried, MILLION - 1)
    return divmod(amount * rate + carried, MILLION)


def format_cents(cents):
    """Return the written form of an amount in cents."""
    sign = "-" if cents < 0 else ""
    whole, rest = divmod(abs(cents), 100)
    return f"{sign}{whole}.{rest:02d}"


def parse_cents(text):
    """Return the number of cents that a text is the written form of."""
    digits = text.removeprefix("-").replace(".", "")
    if not is_digits(digits):
        raise InvalidAmount("this is not the written form of an amount")
    cents = int(digits)
    if text.startswith("-"):
        cents = -cents
    # Each amount has one written form, so writing it again finds every other text.
    if abs(cents) > MOST_WRITTEN or format_cents(cents) != text:
        raise InvalidAmount("this is not the written form of an amount within the limits")
    return cents
