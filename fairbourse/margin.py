"""Margin: what positions and open orders may lose in the scenarios.

Positions and scenarios have one integer for each instrument. An open order is a pair (index, units).
"""

from fairbourse.errors import InvalidAmount


def loss(positions, scenario):
    """Return what positions lose in a scenario; a gain is a loss below 0."""
    if len(positions) != len(scenario):
        raise InvalidAmount("positions and moves have different lengths")
    return -sum([units * move for units, move in zip(positions, scenario)])


def requirement(positions, scenarios):
    """Return the greatest loss and the index of its first scenario, or 0 and None."""
    return order_requirement(positions, [], scenarios)


def order_requirement(positions, orders, scenarios):
    """Return the greatest loss with open orders and the index of its first scenario, or 0 and None."""
    for index, _ in orders:
        if index < 0:
            raise InvalidAmount("there is no such instrument")
    most = 0
    first = None
    for at, scenario in enumerate(scenarios):
        lost = loss(positions, scenario) + _order_loss(orders, scenario)
        if lost > most:
            most = lost
            first = at
    return most, first


def _order_loss(orders, scenario):
    """Return the greatest loss in a scenario that trades of the orders can add."""
    added = 0
    for index, units in orders:
        if index >= len(scenario):
            raise InvalidAmount("there is no such instrument")
        added += max(0, -units * scenario[index])
    return added


def margin_calls(requirements, posted):
    """Return what each house needs beyond what it holds, or 0."""
    if len(requirements) != len(posted):
        raise InvalidAmount("the lists have different lengths")
    return [max(0, needed - held) for needed, held in zip(requirements, posted)]
