"""A second book that follows points 3.1 to 3.15 word by word, to compare the program with.

It keeps each order as a dict and finds the first in priority anew each time, by price and by the
moment at which the order came to its price.
"""


class NaiveBook:
    def __init__(self, first_number=1):
        self.next = first_number
        self.moment = 0
        self.last = None
        self.resting = []
        self.waiting = []

    def side(self, side):
        sign = -1 if side == "buy" else 1
        rows = [row for row in self.resting if row["side"] == side]
        return sorted(rows, key=lambda row: (sign * row["price"], row["moment"]))

    def orders(self, side):
        return [(row["number"], row["house"], row["price"], row["left"], row["visible"]) for row in self.side(side)]

    def stops(self):
        return [tuple(stop) for stop in sorted(self.waiting)]

    def best(self, side):
        prices = [row["price"] for row in self.side(side)]
        return prices[0] if prices else None

    def depth(self, side):
        prices = []
        for row in self.side(side):
            if row["price"] not in prices:
                prices.append(row["price"])
        return [(price, sum(row["visible"] for row in self.side(side) if row["price"] == price)) for price in prices]

    def take_number(self):
        self.next += 1
        return self.next - 1

    def rest(self, number, house, side, price, left, shown):
        visible = min(shown, left) if shown else left
        self.moment += 1
        self.resting.append({
            "number": number, "house": house, "side": side, "price": price, "left": left, "shown": shown,
            "visible": visible, "moment": self.moment,
        })

    def accepted(self, side, price):
        """The orders of the other side at prices that an order accepts, in priority."""
        if side == "buy":
            return [row for row in self.side("sell") if price is None or row["price"] <= price]
        return [row for row in self.side("buy") if price is None or row["price"] >= price]

    def enter(self, number, house, side, price, quantity, kind, shown):
        fills, removed = [], []
        others = [row["left"] for row in self.accepted(side, price) if row["house"] != house]
        if kind == "all" and sum(others) < quantity:
            return (number, house, side, [], [], 0)
        while quantity and self.accepted(side, price):
            row = self.accepted(side, price)[0]
            if row["house"] == house:
                removed.append(row["number"])
                self.resting.remove(row)
                continue
            traded = min(quantity, row["visible"])
            fills.append((row["number"], row["house"], row["price"], traded))
            self.last = row["price"]
            quantity -= traded
            row["left"] -= traded
            row["visible"] -= traded
            if row["visible"] == 0:
                self.resting.remove(row)
                if row["left"]:
                    self.rest(row["number"], row["house"], row["side"], row["price"], row["left"], row["shown"])
        if kind != "rest" or quantity == 0:
            return (number, house, side, fills, removed, 0)
        self.rest(number, house, side, price, quantity, shown)
        return (number, house, side, fills, removed, quantity)

    def reached(self):
        if self.last is None:
            return []
        return [
            stop for stop in sorted(self.waiting)
            if (stop[2] == "buy" and self.last >= stop[3]) or (stop[2] == "sell" and self.last <= stop[3])
        ]

    def triggered(self):
        reports = []
        while self.reached():
            stop = self.reached()[0]
            self.waiting.remove(stop)
            number, house, side, _, price, quantity = stop
            reports.append(self.enter(number, house, side, price, quantity, "now" if price is None else "rest", 0))
        return reports

    def submit(self, house, side, price, quantity, kind, shown):
        return [self.enter(self.take_number(), house, side, price, quantity, kind, shown)] + self.triggered()

    def submit_stop(self, house, side, trigger, price, quantity):
        number = self.take_number()
        self.waiting.append((number, house, side, trigger, price, quantity))
        return [(number, house, side, [], [], 0)] + self.triggered()

    def place(self, number, house, side, price, quantity):
        self.next = max(self.next, number + 1)
        self.rest(number, house, side, price, quantity, 0)

    def cancel(self, number):
        for row in list(self.resting):
            if row["number"] == number:
                self.resting.remove(row)
                return row["left"]
        stop = [stop for stop in self.waiting if stop[0] == number][0]
        self.waiting.remove(stop)
        return stop[5]

    def amend(self, number, price, quantity):
        row = [row for row in self.resting if row["number"] == number][0]
        house, side = row["house"], row["side"]
        if row["price"] == price and quantity <= row["left"]:
            row["left"] = quantity
            row["visible"] = min(row["visible"], quantity)
            return [(number, house, side, [], [], quantity)] + self.triggered()
        self.resting.remove(row)
        shown = min(row["shown"], quantity)
        return [self.enter(number, house, side, price, quantity, "rest", shown)] + self.triggered()
