"""The market of an instrument: a call that collects orders, then a book in which they trade."""

from fairbourse.book import Book, Report
from fairbourse.call import uncross
from fairbourse.errors import InvalidOrder, NotOwner, OutOfBand, UnknownOrder, WrongPhase
from fairbourse.parts import check_order, check_stop


class Market:
    """The market of an instrument."""

    def __init__(self, tick, lot, band, reference):
        self.tick = tick
        self.lot = lot
        self.band = band
        self.reference = reference
        self.phase = "call"
        self.book = Book()
        self._queue = []
        self._next_number = 1

    def closing_reference(self):
        """Return the reference price that the market has after closing."""
        return self.reference if self.book.last is None else self.book.last

    def queue(self):
        """Return the orders of the call by their numbers: (number, house, side, price, quantity)."""
        return list(self._queue)

    def open_quantities(self, house, side):
        """Return the quantities of the open orders of a house on a side: call, book, waiting stop orders."""
        collected = [row[4] for row in self._queue if row[1] == house and row[2] == side]
        resting = [row[3] for row in self.book.orders(side) if row[1] == house]
        waiting = [row[5] for row in self.book.stops() if row[1] == house and row[2] == side]
        return collected + resting + waiting

    def check_new_order(self, house, side, price, quantity, *, kind="rest", shown=0):
        """Raise the error of an order that the market does not take."""
        check_order(house, side, price, quantity, kind, shown)
        if self.phase == "call":
            _check_rule_of_call(price, kind, shown)
        self._check_steps(price, [quantity, shown])

    def check_new_stop(self, house, side, trigger, price, quantity):
        """Raise the error of a stop order that the market does not take."""
        if self.phase != "open":
            raise WrongPhase("there are no stop orders in a call")
        check_stop(house, side, trigger, price, quantity)
        self._check_steps(price, [quantity])

    def submit(self, house, side, price, quantity, *, kind="rest", shown=0):
        """Take an order into the call or the book; return the list of reports."""
        self.check_new_order(house, side, price, quantity, kind=kind, shown=shown)
        if self.phase == "open":
            return self.book.submit(house, side, price, quantity, kind=kind, shown=shown)
        return [self._collect(house, side, price, quantity)]

    def submit_stop(self, house, side, trigger, price, quantity):
        """Take a stop order into the book; return the list of reports."""
        self.check_new_stop(house, side, trigger, price, quantity)
        return self.book.submit_stop(house, side, trigger, price, quantity)

    def cancel(self, number, house):
        """Remove an open order or a waiting stop order; return the quantity that was left."""
        if self.phase == "open":
            return self.book.cancel(number, house)
        row = self._collected(number)
        if row[1] != house:
            raise NotOwner("the order belongs to another house")
        self._queue.remove(row)
        return row[4]

    def start(self):
        """End the call and open the book; return the call price and the trades (buyer, seller, units)."""
        if self.phase != "call":
            raise WrongPhase("the market is open")
        price, trades, left = uncross(self._queue, self.reference)
        houses = {row[0]: row[1] for row in self._queue}
        self.book = Book(self._next_number)
        for number, house, side, limit, quantity in left:
            self.book.place(number, house, side, limit, quantity)
        if trades:
            self.reference = price
            self.book.last = price
        self._queue = []
        self.phase = "open"
        return price, [(houses[buyer], houses[seller], units) for buyer, seller, units in trades]

    def close(self):
        """Remove all orders and begin a new call."""
        self.reference = self.closing_reference()
        self.phase = "call"
        self.book = Book()
        self._queue = []
        self._next_number = 1

    def _check_steps(self, price, quantities):
        """Raise the error of a price or of quantities that the lot, the tick or the band forbids."""
        for quantity in quantities:
            if quantity % self.lot != 0:
                raise InvalidOrder("a quantity is no multiple of the lot")
        if price is None:
            return
        if price % self.tick != 0:
            raise InvalidOrder("the price is no multiple of the tick")
        if abs(price - self.reference) > self.band:
            raise OutOfBand("the price is too far from the reference price")

    def _collect(self, house, side, price, quantity):
        """Let an order wait for the end of the call; return its report."""
        report = Report(self._next_number, house, side)
        report.resting = quantity
        self._queue.append((report.number, house, side, price, quantity))
        self._next_number += 1
        return report

    def _collected(self, number):
        """Return the order of the call with this number."""
        for row in self._queue:
            if row[0] == number:
                return row
        raise UnknownOrder("there is no such order")


def _check_rule_of_call(price, kind, shown):
    """Raise InvalidOrder unless an order can stand in a call."""
    due_kind = "now" if price is None else "rest"
    if kind != due_kind or shown > 0:
        raise InvalidOrder("a call takes orders with a price that rest, and market orders")
