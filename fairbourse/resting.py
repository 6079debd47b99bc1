"""Orders that rest or wait in a book."""

from fairbourse.parts import accepts


class Order:
    """An order that is not a stop order; the price None makes it a market order."""

    def __init__(self, number, house, side, price, quantity, shown):
        self.number = number
        self.house = house
        self.side = side
        self.price = price
        self.shown = shown
        self.left = quantity
        # Nothing is visible until the order rests.
        self.visible = 0

    def accepts_price(self, price):
        """Tell whether the order trades at this price."""
        return accepts(self.side, self.price, price)

    def show_next_part(self):
        """Make the next part visible, or all that is left if nothing is to be hidden."""
        self.visible = self.left if self.shown == 0 else min(self.shown, self.left)

    def trade_visible(self, quantity):
        """Trade a quantity of the visible part."""
        self.left -= quantity
        self.visible -= quantity

    def reduce(self, quantity):
        """Leave only this quantity."""
        self.left = quantity
        self.visible = min(self.visible, quantity)


class Stop:
    """A stop order that waits."""

    def __init__(self, number, house, side, trigger, price, quantity):
        self.number = number
        self.house = house
        self.side = side
        self.trigger = trigger
        self.price = price
        self.quantity = quantity

    def is_reached(self, last):
        """Tell whether the last price reaches the trigger."""
        if last is None:
            return False
        return last >= self.trigger if self.side == "buy" else last <= self.trigger

    def row(self):
        """Return the stop order as a tuple."""
        return (self.number, self.house, self.side, self.trigger, self.price, self.quantity)


class BookSide:
    """The resting orders of one side of a book, in priority."""

    def __init__(self):
        self._orders = []

    def rows(self):
        """Return the orders as a list of tuples."""
        return [(order.number, order.house, order.price, order.left, order.visible) for order in self._orders]

    def shown_parts(self):
        """Return the number of each order and how much of it may be visible at a time."""
        return [(order.number, order.shown) for order in self._orders]

    def depth(self):
        """Return the visible quantity at each price, the best price first."""
        quantities = {}
        for order in self._orders:
            quantities[order.price] = quantities.get(order.price, 0) + order.visible
        return list(quantities.items())

    def first(self):
        """Return the first order in priority, or None."""
        return self._orders[0] if self._orders else None

    def with_number(self, number):
        """Return the order with this number, or None."""
        for order in self._orders:
            if order.number == number:
                return order
        return None

    def available(self, taker):
        """Return all that is left, visible or not, of the orders that an order of the other side could trade with."""
        lefts = [
            order.left
            for order in self._orders
            if order.house != taker.house and taker.accepts_price(order.price)
        ]
        return sum(lefts)

    def enter(self, order):
        """Let an order rest behind all orders with the same or a better price."""
        order.show_next_part()
        self._orders.insert(self._place_behind(order), order)

    def _place_behind(self, order):
        low = 0
        high = len(self._orders)
        while low < high:
            middle = (low + high) // 2
            # An order accepts exactly the prices that are its own or worse in priority.
            if self._orders[middle].accepts_price(order.price):
                low = middle + 1
            else:
                high = middle
        return low

    def leave(self, order):
        """Remove an order."""
        self._orders.remove(order)

    def trade_first(self, quantity):
        """Trade a quantity of the visible part of the first order."""
        first = self._orders[0]
        first.trade_visible(quantity)
        if first.visible == 0:
            self.leave(first)
            if first.left > 0:
                self.enter(first)
