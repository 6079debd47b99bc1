"""The book of one instrument: open orders by price and time, and waiting stop orders."""

from fairbourse.errors import InvalidOrder, NotOwner, UnknownOrder
from fairbourse.parts import accepts, check_order, check_price, check_quantity, check_stop, other_side
from fairbourse.resting import BookSide, Order, Stop


class Report:
    """What happened to an order."""

    def __init__(self, number, house, side):
        self.number = number
        self.house = house
        self.side = side
        self.fills = []
        self.removed = []
        self.resting = 0


class Book:
    """The open orders and the waiting stop orders of one instrument."""

    def __init__(self, first_number=1):
        self.last = None
        self._next_number = first_number
        self._sides = {"buy": BookSide(), "sell": BookSide()}
        self._stops = []

    def submit(self, house, side, price, quantity, *, kind="rest", shown=0):
        """Enter an order; return its report, then those of the stop orders that were triggered."""
        check_order(house, side, price, quantity, kind, shown)
        order = Order(self._take_number(), house, side, price, quantity, shown)
        report = self._enter(order, kind)
        return [report] + self._trigger_stops()

    def submit_stop(self, house, side, trigger, price, quantity):
        """Enter a stop order; return its report, then those of the stop orders that were triggered."""
        check_stop(house, side, trigger, price, quantity)
        stop = Stop(self._take_number(), house, side, trigger, price, quantity)
        self._stops.append(stop)
        return [Report(stop.number, house, side)] + self._trigger_stops()

    def place(self, number, house, side, price, quantity):
        """Let an order with this number rest without trading."""
        check_order(house, side, price, quantity, "rest", 0)
        if number < 1 or self._order_with(number) is not None or self._stop_with(number) is not None:
            raise InvalidOrder("no order can get this number")
        best = self.best(other_side(side))
        if best is not None and accepts(side, price, best):
            raise InvalidOrder("the order would trade")
        self._next_number = max(self._next_number, number + 1)
        self._sides[side].enter(Order(number, house, side, price, quantity, 0))

    def cancel(self, number, house):
        """Remove an open order or a waiting stop order; return the quantity that was left."""
        stop = self._stop_with(number)
        if stop is None:
            order = self._order_of(number, house)
            self._sides[order.side].leave(order)
            return order.left
        if stop.house != house:
            raise NotOwner("the stop order belongs to another house")
        self._stops.remove(stop)
        return stop.quantity

    def amend(self, number, house, price, quantity):
        """Change an open order; return its report, then those of the stop orders that were triggered."""
        check_price(price)
        check_quantity(quantity)
        order = self._order_of(number, house)
        if price == order.price and quantity <= order.left:
            report = self._reduce(order, quantity)
        else:
            report = self._enter_again(order, price, quantity)
        return [report] + self._trigger_stops()

    def orders(self, side):
        """Return the open orders of a side in priority: (number, house, price, quantity left, visible quantity)."""
        return self._sides[side].rows()

    def stops(self):
        """Return the waiting stop orders by their numbers: (number, house, side, trigger, price, quantity)."""
        return [stop.row() for stop in self._stops]

    def best(self, side):
        """Return the best price of a side, or None."""
        first = self._sides[side].first()
        return None if first is None else first.price

    def depth(self, side):
        """Return the prices of a side with their visible quantities, the best price first."""
        return self._sides[side].depth()

    def shown_parts(self, side):
        """Return the number of each open order of a side and its `shown`, which `orders` does not tell."""
        return self._sides[side].shown_parts()

    def _take_number(self):
        number = self._next_number
        self._next_number += 1
        return number

    def _enter(self, order, kind):
        """Let a new order trade and what is left of it rest; return its report."""
        report = Report(order.number, order.house, order.side)
        across = self._sides[other_side(order.side)]
        if kind == "all" and across.available(order) < order.left:
            return report
        first = across.first()
        while order.left > 0 and first is not None and order.accepts_price(first.price):
            if first.house == order.house:
                across.leave(first)
                report.removed.append(first.number)
            else:
                quantity = min(order.left, first.visible)
                order.left -= quantity
                across.trade_first(quantity)
                report.fills.append((first.number, first.house, first.price, quantity))
                self.last = first.price
            first = across.first()
        if kind == "rest" and order.left > 0:
            self._sides[order.side].enter(order)
            report.resting = order.left
        return report

    def _reduce(self, order, quantity):
        """Let an order keep its place with this quantity; return its report."""
        order.reduce(quantity)
        report = Report(order.number, order.house, order.side)
        report.resting = quantity
        return report

    def _enter_again(self, order, price, quantity):
        """Let an order leave and enter as a new one with its own number; return its report."""
        self._sides[order.side].leave(order)
        shown = min(order.shown, quantity)
        return self._enter(Order(order.number, order.house, order.side, price, quantity, shown), "rest")

    def _order_of(self, number, house):
        """Return the open order with this number; it must belong to the house."""
        order = self._order_with(number)
        if order is None:
            raise UnknownOrder("there is no such order")
        if order.house != house:
            raise NotOwner("the order belongs to another house")
        return order

    def _order_with(self, number):
        order = self._sides["buy"].with_number(number)
        return self._sides["sell"].with_number(number) if order is None else order

    def _stop_with(self, number):
        for stop in self._stops:
            if stop.number == number:
                return stop
        return None

    def _trigger_stops(self):
        """Let the stop orders that are reached enter, one at a time; return their reports."""
        reports = []
        stop = self._first_reached()
        while stop is not None:
            self._stops.remove(stop)
            kind = "now" if stop.price is None else "rest"
            order = Order(stop.number, stop.house, stop.side, stop.price, stop.quantity, 0)
            reports.append(self._enter(order, kind))
            stop = self._first_reached()
        return reports

    def _first_reached(self):
        for stop in self._stops:
            if stop.is_reached(self.last):
                return stop
        return None
