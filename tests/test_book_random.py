"""Points 3.1 to 3.15 over long rows of calls: the book and the naive book answer alike."""

import random
import unittest

from fairbourse.book import Book
from fairbourse.errors import InvalidOrder, NotOwner, UnknownOrder
from naive_book import NaiveBook
from support import BourseCase, all_told, snapshot

HOUSES = ["alder", "birch", "cedar"]


class RandomCallsTest(BourseCase):
    def start(self, seed):
        self.draw = random.Random(seed)
        first = self.draw.choice([1, 1, 7])
        self.book = Book(first)
        self.naive = NaiveBook(first)

    def price(self):
        return self.draw.randint(95, 105)

    def quantity(self):
        return self.draw.choice([self.draw.randint(1, 9), self.draw.randint(1, 40)])

    def test_the_books_answer_alike(self):
        steps = [self.submit] * 6 + [self.submit_stop] * 2 + [self.amend, self.amend, self.cancel, self.place, self.fail_]
        for seed in range(60):
            self.start(seed)
            for _ in range(120):
                self.draw.choice(steps)()
                self.compare()

    def compare(self):
        self.assertEqual(snapshot(self.book), snapshot(self.naive))
        buy, sell = self.book.best("buy"), self.book.best("sell")
        self.assertTrue(buy is None or sell is None or buy < sell)
        self.assertTrue(all(0 < visible <= left for side in ("buy", "sell") for _, _, _, left, visible in self.book.orders(side)))

    def submit(self):
        house, side, quantity = self.draw.choice(HOUSES), self.draw.choice(["buy", "sell"]), self.quantity()
        kind = self.draw.choice(["rest", "rest", "rest", "now", "all"])
        price = None if kind != "rest" and self.draw.random() < 0.4 else self.price()
        shown = self.draw.choice([0, self.draw.randint(1, quantity)]) if kind == "rest" else 0
        reports = self.book.submit(house, side, price, quantity, kind=kind, shown=shown)
        self.assertEqual(all_told(reports), self.naive.submit(house, side, price, quantity, kind, shown))

    def submit_stop(self):
        price = self.draw.choice([None, self.price()])
        parts = (self.draw.choice(HOUSES), self.draw.choice(["buy", "sell"]), self.price(), price, self.quantity())
        self.assertEqual(all_told(self.book.submit_stop(*parts)), self.naive.submit_stop(*parts))

    def open_orders(self):
        return [(row[0], row[1]) for side in ("buy", "sell") for row in self.book.orders(side)]

    def amend(self):
        if self.open_orders():
            number, house = self.draw.choice(self.open_orders())
            row = [row for side in ("buy", "sell") for row in self.book.orders(side) if row[0] == number][0]
            price = self.draw.choice([row[2], row[2], self.price()])
            quantity = self.draw.choice([row[3], self.draw.randint(1, row[3]), self.quantity()])
            reports = self.book.amend(number, house, price, quantity)
            self.assertEqual(all_told(reports), self.naive.amend(number, price, quantity))

    def cancel(self):
        everything = self.open_orders() + [(stop[0], stop[1]) for stop in self.book.stops()]
        if everything:
            number, house = self.draw.choice(everything)
            self.assertEqual(self.book.cancel(number, house), self.naive.cancel(number))

    def place(self):
        side, price = self.draw.choice(["buy", "sell"]), self.price()
        number = self.naive.next + self.draw.randint(0, 3)
        if self.naive.accepted(side, price):
            self.raises(InvalidOrder, self.book.place, number, "alder", side, price, 5)
        else:
            self.assertIsNone(self.book.place(number, "alder", side, price, 5))
            self.naive.place(number, "alder", side, price, 5)

    def fail_(self):
        self.raises(UnknownOrder, self.book.cancel, self.naive.next, "alder")
        self.raises(InvalidOrder, self.book.submit, "alder", "buy", 0, 1)
        for number, _ in self.open_orders():
            self.raises(NotOwner, self.book.cancel, number, "dogwood")
            self.raises(NotOwner, self.book.amend, number, "dogwood", 100, 1)


if __name__ == "__main__":
    unittest.main()
