"""Points 3.2, 3.11, 3.12 and 3.15: placing, cancelling and amending orders, and stop orders."""

import unittest

from fairbourse.book import Book
from fairbourse.errors import InvalidOrder, NotOwner, UnknownOrder
from support import BourseCase, all_told, snapshot, told

TOP = 1000000


def book_with_last(price):
    """A book without orders whose last price is this one; the next number is 3."""
    book = Book()
    book.submit("x", "sell", price, 1)
    book.submit("y", "buy", price, 1)
    return book


class PlaceTest(BourseCase):
    def test_an_order_rests_and_later_orders_get_greater_numbers(self):
        book = Book()
        self.assertIsNone(book.place(5, "a", "buy", 100, 7))
        self.assertEqual(book.orders("buy"), [(5, "a", 100, 7, 7)])
        self.assertEqual(book.submit("a", "buy", 99, 1)[0].number, 6)

    def test_a_number_below_the_next_one(self):
        book = Book(8)
        book.place(2, "a", "buy", 100, 7)
        book.place(7, "a", "buy", 100, 6)
        book.place(4, "a", "sell", 101, 5)
        self.assertEqual([row[0] for row in book.orders("buy")], [2, 7])
        self.assertEqual(book.submit("a", "buy", 99, 1)[0].number, 8)
        book.place(1, "a", "buy", 1, 1)
        self.assertEqual(book.submit("a", "buy", 99, 1)[0].number, 9)

    def test_the_number_that_would_be_next(self):
        book = Book(8)
        book.place(8, "a", "buy", 100, 7)
        self.assertEqual(book.submit("a", "buy", 99, 1)[0].number, 9)

    def test_an_order_goes_behind_the_orders_with_the_same_price(self):
        book = Book(10)
        book.submit("a", "buy", 100, 1)
        book.place(3, "a", "buy", 100, 1)
        book.place(2, "a", "buy", 101, 1)
        self.assertEqual([row[0] for row in book.orders("buy")], [2, 10, 3])

    def test_a_placed_order_is_an_order_like_others(self):
        book = Book()
        book.place(4, "a", "buy", 100, 7)
        self.assertEqual(book.submit("b", "sell", 100, 2)[0].fills, [(4, "a", 100, 2)])
        self.assertEqual(book.amend(4, "a", 100, 3)[0].resting, 3)
        self.assertEqual(book.cancel(4, "a"), 3)

    def test_an_order_that_accepts_the_best_price_of_the_other_side(self):
        book = Book()
        book.submit("a", "sell", 100, 5)
        book.submit("a", "buy", 98, 5)
        before = snapshot(book)
        for house in ("a", "b"):
            for side, price in (("buy", 100), ("buy", 101), ("sell", 98), ("sell", 97)):
                self.raises(InvalidOrder, book.place, 9, house, side, price, 1)
        self.assertEqual(snapshot(book), before)
        self.assertEqual(book.submit("b", "buy", 99, 1, kind="now")[0].number, 3)
        book.place(9, "b", "buy", 99, 1)
        book.cancel(9, "b")
        book.place(12, "b", "sell", 99, 1)
        self.assertEqual((book.best("buy"), book.best("sell")), (98, 99))

    def test_the_bounds(self):
        for side, price, quantity in (("buy", 1, 1), ("buy", TOP, TOP), ("sell", 1, TOP), ("sell", TOP, 1)):
            book = Book()
            book.place(1, "a", side, price, quantity)
            self.assertEqual(book.orders(side), [(1, "a", price, quantity, quantity)])

    def test_parts_out_of_range(self):
        book = Book()
        book.submit("a", "buy", 5, 5)
        before = snapshot(book)
        wrong = [
            ("a", "hold", 5, 5), ("a", "buy", 0, 5), ("a", "buy", TOP + 1, 5), ("a", "buy", None, 5),
            ("a", "buy", 5, 0), ("a", "buy", 5, TOP + 1), ("", "buy", 5, 5),
        ]
        for parts in wrong:
            self.raises(InvalidOrder, book.place, 9, *parts)
        for number in (0, -1):
            self.raises(InvalidOrder, book.place, number, "a", "buy", 5, 5)
        self.assertEqual(snapshot(book), before)
        self.assertEqual(book.submit("a", "buy", 5, 5)[0].number, 2)

    def test_a_number_that_an_order_has(self):
        book = Book()
        book.submit("a", "buy", 5, 5)
        book.submit_stop("a", "buy", 9, 5, 5)
        book.submit("a", "sell", 6, 5)
        before = snapshot(book)
        for number in (1, 2, 3):
            self.raises(InvalidOrder, book.place, number, "b", "buy", 3, 5)
        self.assertEqual(snapshot(book), before)

    def test_placing_triggers_nothing(self):
        book = Book()
        book.submit_stop("a", "buy", 5, 4, 5)
        book.place(9, "b", "buy", 7, 1)
        self.assertEqual(book.stops(), [(1, "a", "buy", 5, 4, 5)])


class CancelTest(BourseCase):
    def test_an_open_order(self):
        book = Book()
        book.submit("a", "sell", 100, 30, shown=10)
        book.submit("b", "buy", 100, 4)
        self.assertEqual(book.cancel(1, "a"), 26)
        self.assertEqual(book.orders("sell"), [])
        self.raises(UnknownOrder, book.cancel, 1, "a")

    def test_only_this_order_leaves(self):
        book = Book()
        for side, price in (("buy", 5), ("buy", 5), ("sell", 9), ("sell", 9)):
            book.submit("a", side, price, price)
        self.assertEqual(book.cancel(2, "a"), 5)
        self.assertEqual(book.cancel(3, "a"), 9)
        self.assertEqual([row[0] for row in book.orders("buy") + book.orders("sell")], [1, 4])
        self.assertEqual(book.submit("a", "buy", 1, 1)[0].number, 5)

    def test_a_waiting_stop_order(self):
        book = Book()
        book.submit_stop("a", "buy", 100, None, 7)
        book.submit_stop("a", "sell", 100, 90, 8)
        self.assertEqual(book.cancel(1, "a"), 7)
        self.assertEqual(book.stops(), [(2, "a", "sell", 100, 90, 8)])
        self.raises(UnknownOrder, book.cancel, 1, "a")

    def test_errors(self):
        book = Book()
        book.submit("a", "buy", 100, 5)
        book.submit_stop("b", "buy", 200, 100, 7)
        book.submit("c", "buy", 100, 5, kind="now")
        before = snapshot(book)
        for number in (0, -1, 3, 4, 10 ** 9):
            for house in ("a", "c", "nobody"):
                self.raises(UnknownOrder, book.cancel, number, house)
        for house in ("b", "", "A", "nobody"):
            self.raises(NotOwner, book.cancel, 1, house)
        self.raises(NotOwner, book.cancel, 2, "a")
        self.assertEqual(snapshot(book), before)

    def test_an_order_that_has_traded_or_was_removed(self):
        book = Book()
        book.submit("a", "buy", 100, 5)
        book.submit("b", "sell", 100, 5)
        book.submit("a", "buy", 100, 5)
        book.submit("a", "sell", 100, 5, kind="now")
        for number in (1, 2, 3, 4):
            self.raises(UnknownOrder, book.cancel, number, "a")


class AmendTest(BourseCase):
    def setUp(self):
        self.book = Book()
        self.book.submit("a", "buy", 100, 20, shown=8)
        self.book.submit("b", "buy", 100, 5)

    def test_a_smaller_quantity_keeps_the_place(self):
        reports = self.book.amend(1, "a", 100, 12)
        self.assertEqual(all_told(reports), [(1, "a", "buy", [], [], 12)])
        self.assertEqual(self.book.orders("buy")[0], (1, "a", 100, 12, 8))
        self.book.amend(1, "a", 100, 5)
        self.assertEqual(self.book.orders("buy")[0], (1, "a", 100, 5, 5))

    def test_what_is_left_keeps_the_place(self):
        self.assertEqual(self.book.amend(1, "a", 100, 20)[0].resting, 20)
        self.assertEqual(self.book.orders("buy")[0], (1, "a", 100, 20, 8))
        self.book.submit("c", "sell", 100, 3)
        self.book.amend(1, "a", 100, 17)
        self.assertEqual(self.book.orders("buy")[0], (1, "a", 100, 17, 5))

    def test_more_than_what_is_left_gives_up_the_place(self):
        self.book.submit("c", "sell", 100, 3)
        reports = self.book.amend(1, "a", 100, 18)
        self.assertEqual(all_told(reports), [(1, "a", "buy", [], [], 18)])
        self.assertEqual(self.book.orders("buy"), [(2, "b", 100, 5, 5), (1, "a", 100, 18, 8)])

    def test_another_price_gives_up_the_place(self):
        self.book.amend(2, "b", 101, 5)
        self.assertEqual([row[0] for row in self.book.orders("buy")], [2, 1])
        self.book.amend(2, "b", 100, 1)
        self.assertEqual(self.book.orders("buy"), [(1, "a", 100, 20, 8), (2, "b", 100, 1, 1)])

    def test_an_order_that_keeps_its_place_keeps_its_shown(self):
        self.book.amend(1, "a", 100, 3)
        self.assertEqual(self.book.orders("buy")[0], (1, "a", 100, 3, 3))
        self.book.amend(1, "a", 100, 30)
        self.assertEqual(self.book.orders("buy")[1], (1, "a", 100, 30, 8))

    def test_shown_becomes_the_new_quantity_and_stays_so(self):
        self.book.amend(1, "a", 101, 3)
        self.assertEqual(self.book.orders("buy")[0], (1, "a", 101, 3, 3))
        self.book.amend(1, "a", 101, 30)
        self.assertEqual(self.book.orders("buy")[0], (1, "a", 101, 30, 3))

    def test_an_order_that_hides_nothing_goes_on_so(self):
        self.book.amend(2, "b", 101, 50)
        self.assertEqual(self.book.orders("buy")[0], (2, "b", 101, 50, 50))

    def test_an_amended_order_may_trade(self):
        self.book.submit("c", "sell", 103, 4)
        self.book.submit("a", "sell", 103, 4)
        reports = self.book.amend(1, "a", 103, 9)
        self.assertEqual(all_told(reports), [(1, "a", "buy", [(3, "c", 103, 4)], [4], 5)])
        self.assertEqual(self.book.orders("buy")[0], (1, "a", 103, 5, 5))
        self.assertEqual(self.book.submit("a", "buy", 1, 1)[0].number, 5)

    def test_a_sell_order(self):
        book = Book()
        book.submit("a", "sell", 100, 5)
        book.submit("b", "sell", 100, 5)
        book.submit("c", "buy", 97, 2)
        self.assertEqual(all_told(book.amend(1, "a", 97, 6)), [(1, "a", "sell", [(3, "c", 97, 2)], [], 4)])
        self.assertEqual(book.orders("sell"), [(1, "a", 97, 4, 4), (2, "b", 100, 5, 5)])

    def test_an_amended_order_that_trades_triggers_stops(self):
        self.book.submit("c", "sell", 103, 4)
        self.book.submit_stop("d", "buy", 103, 50, 6)
        reports = self.book.amend(2, "b", 103, 1)
        self.assertEqual(all_told(reports), [
            (2, "b", "buy", [(3, "c", 103, 1)], [], 0), (4, "d", "buy", [], [], 6),
        ])

    def test_the_bounds(self):
        self.assertEqual(self.book.amend(2, "b", 1, TOP)[0].resting, TOP)
        self.assertEqual(self.book.amend(2, "b", TOP, 1)[0].resting, 1)

    def test_errors_in_their_order(self):
        self.book.submit_stop("b", "buy", 200, 100, 7)
        before = snapshot(self.book)
        for price, quantity in ((0, 5), (TOP + 1, 5), (None, 5), (5, 0), (5, TOP + 1)):
            for number, house in ((1, "a"), (1, "b"), (9, "a"), (3, "b")):
                self.raises(InvalidOrder, self.book.amend, number, house, price, quantity)
        for number, house in ((0, "a"), (9, "a"), (9, "nobody"), (3, "b"), (3, "a")):
            self.raises(UnknownOrder, self.book.amend, number, house, 100, 5)
        for number, house in ((1, "b"), (2, "a"), (2, "")):
            self.raises(NotOwner, self.book.amend, number, house, 100, 5)
        self.assertEqual(snapshot(self.book), before)
        self.assertEqual(self.book.submit("a", "buy", 1, 1)[0].number, 4)


class StopsTest(BourseCase):
    def test_a_stop_order_waits_without_a_last_price(self):
        book = Book()
        for side in ("buy", "sell"):
            for trigger in (1, TOP):
                self.assertEqual(len(book.submit_stop("a", side, trigger, 5, 7)), 1)
        self.assertEqual(len(book.stops()), 4)
        self.assertEqual(book.orders("buy") + book.orders("sell"), [])

    def test_the_report_of_a_stop_order_that_waits(self):
        book = book_with_last(100)
        self.assertEqual(all_told(book.submit_stop("a", "buy", 101, None, 7)), [(3, "a", "buy", [], [], 0)])
        self.assertEqual(all_told(book.submit_stop("b", "sell", 99, 50, 8)), [(4, "b", "sell", [], [], 0)])
        self.assertEqual(book.stops(), [(3, "a", "buy", 101, None, 7), (4, "b", "sell", 99, 50, 8)])

    def test_triggers_that_the_last_price_reaches(self):
        for side, trigger, many in (
            ("buy", 101, 1), ("buy", 100, 2), ("buy", 99, 2), ("sell", 99, 1), ("sell", 100, 2), ("sell", 101, 2),
        ):
            self.assertEqual(len(book_with_last(100).submit_stop("a", side, trigger, 60, 7)), many)

    def test_a_new_stop_order_that_is_reached_at_once(self):
        book = book_with_last(100)
        reports = book.submit_stop("a", "buy", 100, 60, 7)
        self.assertEqual(all_told(reports), [(3, "a", "buy", [], [], 0), (3, "a", "buy", [], [], 7)])
        self.assertEqual(book.stops(), [])
        self.assertEqual(book.orders("buy"), [(3, "a", 60, 7, 7)])
        self.assertEqual(book.submit("a", "buy", 1, 1)[0].number, 4)

    def test_a_stop_order_without_a_price_is_a_market_order_of_the_kind_now(self):
        book = book_with_last(100)
        book.submit("b", "sell", 120, 3)
        reports = book.submit_stop("a", "buy", 90, None, 7)
        self.assertEqual(told(reports[1]), (4, "a", "buy", [(3, "b", 120, 3)], [], 0))
        self.assertEqual(book.orders("buy"), [])

    def test_a_stop_order_with_a_price_rests(self):
        book = book_with_last(100)
        book.submit("b", "sell", 120, 3)
        book.submit("b", "sell", 121, 3)
        reports = book.submit_stop("a", "buy", 90, 120, 7)
        self.assertEqual(told(reports[1]), (5, "a", "buy", [(3, "b", 120, 3)], [], 4))
        self.assertEqual(book.orders("buy"), [(5, "a", 120, 4, 4)])

    def test_a_trade_triggers_the_lowest_number_first(self):
        book = Book()
        book.submit_stop("a", "buy", 100, 60, 1)
        book.submit_stop("b", "sell", 100, 200, 2)
        book.submit_stop("c", "buy", 99, 61, 3)
        book.submit_stop("d", "buy", 101, 62, 4)
        book.submit("x", "sell", 100, 5)
        reports = book.submit("y", "buy", 100, 5)
        self.assertEqual([report.number for report in reports], [6, 1, 2, 3])
        self.assertEqual([stop[0] for stop in book.stops()], [4])

    def test_the_waiting_ones_are_checked_again_after_each_triggered_order(self):
        book = Book()
        book.submit_stop("a", "buy", 105, None, 1)
        book.submit_stop("b", "buy", 100, None, 1)
        book.submit_stop("c", "buy", 100, None, 1)
        for price in (100, 105, 107, 109):
            book.submit("x", "sell", price, 1)
        reports = book.submit("y", "buy", 100, 1)
        # The trade of number 2 at 105 reaches number 1, which then goes before number 3.
        self.assertEqual([report.number for report in reports], [8, 2, 1, 3])
        self.assertEqual([report.fills[0][2] for report in reports], [100, 105, 107, 109])
        self.assertEqual(book.last, 109)

    def test_a_stop_order_may_not_be_reached_any_more(self):
        book = Book()
        book.submit_stop("a", "sell", 100, None, 1)
        book.submit_stop("b", "buy", 100, None, 1)
        book.submit("x", "buy", 90, 1)
        book.submit("x", "sell", 100, 1)
        reports = book.submit("y", "buy", 100, 1)
        self.assertEqual([report.number for report in reports], [5, 1])
        self.assertEqual([stop[0] for stop in book.stops()], [2])
        self.assertEqual(book.last, 90)

    def test_a_triggered_order_meets_own_orders(self):
        book = Book()
        book.submit("a", "sell", 101, 5)
        book.submit("b", "sell", 100, 1)
        book.submit_stop("a", "buy", 100, 101, 4)
        reports = book.submit("c", "buy", 100, 1)
        self.assertEqual(told(reports[1]), (3, "a", "buy", [], [1], 4))

    def test_the_bounds(self):
        for side in ("buy", "sell"):
            for trigger in (1, TOP):
                for price in (None, 1, TOP):
                    for quantity in (1, TOP):
                        book = Book()
                        book.submit_stop("a", side, trigger, price, quantity)
                        self.assertEqual(book.stops(), [(1, "a", side, trigger, price, quantity)])

    def test_parts_out_of_range(self):
        book = book_with_last(100)
        book.submit_stop("a", "buy", 101, None, 7)
        before = snapshot(book)
        for parts in (
            ("a", "hold", 5, 5, 5), ("a", "", 5, 5, 5), ("a", "buy", 0, 5, 5), ("a", "buy", -1, 5, 5),
            ("a", "buy", TOP + 1, 5, 5), ("a", "buy", None, 5, 5), ("a", "buy", 5, 0, 5), ("a", "buy", 5, TOP + 1, 5),
            ("a", "buy", 5, 5, 0), ("a", "buy", 5, 5, TOP + 1), ("a", "buy", 5, None, 0), ("", "buy", 5, 5, 5),
        ):
            self.raises(InvalidOrder, book.submit_stop, *parts)
        self.assertEqual(snapshot(book), before)
        self.assertEqual(book.submit_stop("a", "buy", 101, None, 7)[0].number, 4)


if __name__ == "__main__":
    unittest.main()
