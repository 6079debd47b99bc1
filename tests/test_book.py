"""Points 3.1 to 3.10, 3.13 and 3.14: orders that trade and rest."""

import unittest

from fairbourse.book import Book, Report
from fairbourse.errors import InvalidOrder
from support import BourseCase, all_told, snapshot, told

TOP = 1000000


class ExampleTest(BourseCase):
    def test_the_example(self):
        book = Book()
        book.submit("alder", "sell", 101, 30, shown=10)
        book.submit("birch", "sell", 101, 10)
        reports = book.submit("cedar", "buy", 101, 25)
        self.assertEqual(reports[0].fills, [(1, "alder", 101, 10), (2, "birch", 101, 10), (1, "alder", 101, 5)])
        self.assertEqual(book.orders("sell"), [(1, "alder", 101, 15, 5)])

    def test_an_empty_book(self):
        book = Book()
        self.assertEqual(snapshot(book), ([([], None, []), ([], None, [])], [], None))


class ReportTest(BourseCase):
    def test_the_report_of_an_order_that_rests(self):
        reports = Book().submit("alder", "buy", 100, 7)
        self.assertIs(type(reports), list)
        self.assertIs(type(reports[0]), Report)
        self.assertEqual(all_told(reports), [(1, "alder", "buy", [], [], 7)])

    def test_the_report_of_an_order_with_trades_and_removed_orders(self):
        book = Book()
        book.submit("birch", "sell", 101, 5)
        book.submit("alder", "sell", 101, 6)
        book.submit("cedar", "sell", 102, 7)
        book.submit("alder", "sell", 102, 8)
        reports = book.submit("alder", "buy", 102, 20)
        fills = [(1, "birch", 101, 5), (3, "cedar", 102, 7)]
        self.assertEqual(all_told(reports), [(5, "alder", "buy", fills, [2, 4], 8)])
        self.assertEqual(book.orders("sell"), [])
        self.assertEqual(book.orders("buy"), [(5, "alder", 102, 8, 8)])

    def test_lists_of_a_report_are_its_own(self):
        book = Book()
        book.submit("alder", "sell", 100, 5)
        reports = book.submit("birch", "buy", 100, 3)
        reports[0].fills.clear()
        reports[0].removed.append(1)
        reports.clear()
        self.assertEqual(book.orders("sell"), [(1, "alder", 100, 2, 2)])
        self.assertEqual(told(book.submit("birch", "buy", 100, 1)[0])[3:], ([(1, "alder", 100, 1)], [], 0))

    def test_returned_lists_are_new_ones(self):
        book = Book()
        book.submit("alder", "buy", 100, 5)
        book.submit_stop("alder", "buy", 200, None, 5)
        before = snapshot(book)
        book.orders("buy").clear()
        book.depth("buy").clear()
        book.stops().clear()
        self.assertEqual(snapshot(book), before)


class PartsTest(BourseCase):
    """Points 3.1, 3.3, 3.5 and 3.15: the parts of an order."""

    GOOD = [
        ("a", "buy", 1, 1, "rest", 0), ("a", "sell", TOP, TOP, "rest", 0), ("a", "buy", 5, 5, "rest", 1),
        ("a", "buy", 5, 5, "rest", 5), ("a", "buy", 5, TOP, "rest", TOP), ("a", "buy", 5, 5, "now", 0),
        ("a", "buy", 5, 5, "all", 0), ("a", "sell", None, 1, "now", 0), ("a", "sell", None, TOP, "all", 0),
        ("A b!", "sell", 5, 5, "rest", 0),
    ]
    WRONG = [
        ("a", "hold", 5, 5, "rest", 0), ("a", "", 5, 5, "rest", 0), ("a", "Buy", 5, 5, "rest", 0),
        ("a", "buy", 5, 5, "later", 0), ("a", "buy", 5, 5, "", 0), ("a", "buy", 5, 5, "REST", 0),
        ("a", "buy", 0, 5, "rest", 0), ("a", "buy", -1, 5, "rest", 0), ("a", "buy", TOP + 1, 5, "rest", 0),
        ("a", "buy", 0, 5, "now", 0), ("a", "buy", TOP + 1, 5, "all", 0), ("a", "buy", None, 5, "rest", 0),
        ("a", "buy", 5, 0, "rest", 0), ("a", "buy", 5, -1, "rest", 0), ("a", "buy", 5, TOP + 1, "rest", 0),
        ("a", "buy", None, 0, "now", 0), ("a", "buy", None, TOP + 1, "all", 0),
        ("a", "buy", 5, 5, "rest", -1), ("a", "buy", 5, 5, "rest", 6), ("a", "buy", 5, 1, "rest", 2),
        ("a", "buy", 5, 5, "now", 1), ("a", "buy", 5, 5, "all", 5), ("a", "buy", None, 5, "now", 5),
        ("a", "buy", 5, 5, "now", -1), ("a", "buy", None, 5, "rest", 1), ("", "buy", 5, 5, "rest", 0),
        ("a", "buy", True, 5, "rest", 0), ("a", "buy", 5, True, "rest", 0), ("a", "buy", 5, None, "rest", 0),
    ]

    def test_good_parts(self):
        for house, side, price, quantity, kind, shown in self.GOOD:
            reports = Book().submit(house, side, price, quantity, kind=kind, shown=shown)
            resting = quantity if kind == "rest" else 0
            self.assertEqual(all_told(reports), [(1, house, side, [], [], resting)])

    def test_wrong_parts_change_nothing_and_use_no_number(self):
        book = Book()
        book.submit("birch", "sell", 5, 9)
        book.submit("birch", "buy", 4, 9)
        before = snapshot(book)
        for house, side, price, quantity, kind, shown in self.WRONG:
            with self.subTest((house, side, price, quantity, kind, shown)):
                self.raises(InvalidOrder, book.submit, house, side, price, quantity, kind=kind, shown=shown)
                self.assertEqual(snapshot(book), before)
        self.assertEqual(book.submit("a", "buy", 1, 1)[0].number, 3)

    def test_kind_and_shown_have_defaults(self):
        book = Book()
        book.submit("a", "buy", 5, 7)
        self.assertEqual(book.orders("buy"), [(1, "a", 5, 7, 7)])


class NumbersTest(BourseCase):
    """Point 3.2."""

    def test_numbers_count_from_the_first_one(self):
        for first in (1, 2, 40):
            book = Book(first_number=first)
            self.assertEqual(book.submit("a", "buy", 5, 5)[0].number, first)
            self.assertEqual(book.submit_stop("a", "buy", 9, 5, 5)[0].number, first + 1)
            self.assertEqual(book.submit("a", "buy", 5, 5, kind="now")[0].number, first + 2)
            self.assertEqual(book.submit("a", "buy", 5, 5, kind="all")[0].number, first + 3)
            self.assertEqual(book.submit("a", "buy", 5, 5)[0].number, first + 4)

    def test_both_sides_share_the_numbers(self):
        book = Book()
        book.submit("a", "buy", 5, 5)
        self.assertEqual(book.submit("a", "sell", 6, 5)[0].number, 2)


class KindsTest(BourseCase):
    """Points 3.3 and 3.8."""

    def setUp(self):
        self.book = Book()
        self.book.submit("birch", "sell", 100, 10)
        self.book.submit("cedar", "sell", 101, 10, shown=2)
        self.book.submit("alder", "sell", 101, 10)

    def test_what_an_order_of_the_kind_now_does_not_trade_is_dropped(self):
        report = self.book.submit("alder", "buy", 100, 15, kind="now")[0]
        self.assertEqual(told(report)[3:], ([(1, "birch", 100, 10)], [], 0))
        self.assertEqual(self.book.orders("buy"), [])
        report = self.book.submit("alder", "buy", 99, 15, kind="now")[0]
        self.assertEqual(told(report)[3:], ([], [], 0))
        self.assertEqual(self.book.orders("buy"), [])

    def test_an_order_of_the_kind_all_trades_its_whole_quantity(self):
        report = self.book.submit("alder", "buy", 101, 20, kind="all")[0]
        self.assertEqual(sum(fill[3] for fill in report.fills), 20)
        self.assertEqual(report.removed, [3])
        self.assertEqual(self.book.orders("sell"), [])
        self.assertEqual(self.book.orders("buy"), [])

    def test_an_order_of_the_kind_all_does_nothing_otherwise(self):
        before = snapshot(self.book)
        for price, quantity in ((101, 21), (100, 11), (99, 1), (None, 21)):
            report = self.book.submit("alder", "buy", price, quantity, kind="all")[0]
            self.assertEqual(told(report)[1:], ("alder", "buy", [], [], 0))
            self.assertEqual(snapshot(self.book), before)
        self.assertEqual(self.book.submit("alder", "buy", 99, 1)[0].number, 8)

    def test_own_orders_are_not_available(self):
        self.assertEqual(self.book.submit("cedar", "buy", 101, 21, kind="all")[0].fills, [])
        report = self.book.submit("cedar", "buy", 101, 20, kind="all")[0]
        self.assertEqual(told(report)[3:], ([(1, "birch", 100, 10), (3, "alder", 101, 10)], [2], 0))

    def test_market_orders(self):
        report = self.book.submit("dogwood", "buy", None, 40, kind="now")[0]
        self.assertEqual(sum(fill[3] for fill in report.fills), 30)
        self.assertEqual(report.resting, 0)
        self.assertEqual(snapshot(self.book)[0], [([], None, []), ([], None, [])])

    def test_a_market_order_of_the_kind_all(self):
        self.assertEqual(self.book.submit("dogwood", "buy", None, 31, kind="all")[0].fills, [])
        report = self.book.submit("dogwood", "buy", None, 30, kind="all")[0]
        self.assertEqual(sum(fill[3] for fill in report.fills), 30)

    def test_kinds_of_the_side_sell(self):
        book = Book()
        book.submit("birch", "buy", 100, 10)
        book.submit("cedar", "buy", 99, 10, shown=1)
        self.assertEqual(book.submit("alder", "sell", 100, 11, kind="all")[0].fills, [])
        self.assertEqual(book.submit("alder", "sell", 99, 21, kind="all")[0].fills, [])
        report = book.submit("alder", "sell", None, 12, kind="all")[0]
        self.assertEqual(report.fills, [(1, "birch", 100, 10), (2, "cedar", 99, 1), (2, "cedar", 99, 1)])
        self.assertEqual(book.submit("alder", "sell", 99, 12, kind="now")[0].resting, 0)
        self.assertEqual((book.orders("buy"), book.orders("sell")), ([], []))


class PriorityTest(BourseCase):
    """Points 3.4 and 3.9, and what the book tells of its sides."""

    def test_a_higher_price_goes_first_among_buy_orders(self):
        book = Book()
        for price in (100, 102, 101, 102, 99, 100):
            book.submit("a", "buy", price, 1)
        self.assertEqual([row[0] for row in book.orders("buy")], [2, 4, 3, 1, 6, 5])
        self.assertEqual(book.best("buy"), 102)

    def test_a_lower_price_goes_first_among_sell_orders(self):
        book = Book()
        for price in (100, 102, 101, 102, 99, 100):
            book.submit("a", "sell", price, 1)
        self.assertEqual([row[0] for row in book.orders("sell")], [5, 1, 6, 3, 2, 4])
        self.assertEqual(book.best("sell"), 99)

    def test_depth(self):
        book = Book()
        book.submit("a", "sell", 101, 30, shown=10)
        book.submit("b", "sell", 100, 4)
        book.submit("c", "sell", 101, 7)
        book.submit("c", "buy", 98, 7)
        book.submit("c", "buy", 99, 20, shown=3)
        self.assertEqual(book.depth("sell"), [(100, 4), (101, 17)])
        self.assertEqual(book.depth("buy"), [(99, 3), (98, 7)])

    def test_what_is_left_rests_behind_the_orders_with_the_same_price(self):
        book = Book()
        book.submit("a", "buy", 100, 5)
        book.submit("b", "sell", 101, 5)
        self.assertEqual(book.submit("c", "buy", 101, 8)[0].resting, 3)
        book.submit("d", "buy", 101, 2)
        self.assertEqual(book.orders("buy"), [(3, "c", 101, 3, 3), (4, "d", 101, 2, 2), (1, "a", 100, 5, 5)])


class ShownTest(BourseCase):
    """Points 3.5 and 3.9."""

    def test_the_visible_part(self):
        for shown, visible in ((0, 30), (1, 1), (10, 10), (29, 29), (30, 30)):
            book = Book()
            book.submit("a", "sell", 101, 30, shown=shown)
            self.assertEqual(book.orders("sell"), [(1, "a", 101, 30, visible)])

    def test_the_first_visible_part_is_computed_from_what_is_left(self):
        book = Book()
        book.submit("a", "buy", 101, 24)
        book.submit("b", "sell", 101, 30, shown=10)
        self.assertEqual(book.orders("sell"), [(2, "b", 101, 6, 6)])

    def test_the_next_part_comes_when_the_visible_part_is_traded(self):
        book = Book()
        book.submit("a", "sell", 101, 25, shown=10)
        book.submit("b", "sell", 101, 3)
        book.submit("c", "buy", 101, 9)
        self.assertEqual(book.orders("sell"), [(1, "a", 101, 16, 1), (2, "b", 101, 3, 3)])
        book.submit("c", "buy", 101, 1)
        self.assertEqual(book.orders("sell"), [(2, "b", 101, 3, 3), (1, "a", 101, 15, 10)])
        book.submit("c", "buy", 101, 13)
        self.assertEqual(book.orders("sell"), [(1, "a", 101, 5, 5)])
        book.submit("c", "buy", 101, 5)
        self.assertEqual(book.orders("sell"), [])

    def test_the_order_goes_behind_its_price_only(self):
        book = Book()
        book.submit("a", "buy", 101, 25, shown=10)
        book.submit("b", "buy", 101, 3)
        book.submit("b", "buy", 100, 3)
        report = book.submit("c", "sell", 100, 26)[0]
        self.assertEqual(report.fills, [(1, "a", 101, 10), (2, "b", 101, 3), (1, "a", 101, 10), (1, "a", 101, 3)])
        self.assertEqual(book.orders("buy"), [(1, "a", 101, 2, 2), (3, "b", 100, 3, 3)])

    def test_a_new_order_with_a_shown_part_trades_its_whole_quantity(self):
        book = Book()
        book.submit("a", "sell", 101, 25)
        self.assertEqual(book.submit("b", "buy", 101, 20, shown=1)[0].fills, [(1, "a", 101, 20)])


class TradesTest(BourseCase):
    """Points 3.6, 3.10 and 3.14."""

    def test_prices_that_a_buy_order_accepts(self):
        for price, traded in ((99, 0), (100, 1), (101, 1)):
            book = Book()
            book.submit("a", "sell", 100, 1)
            self.assertEqual(len(book.submit("b", "buy", price, 1)[0].fills), traded)

    def test_prices_that_a_sell_order_accepts(self):
        for price, traded in ((101, 0), (100, 1), (99, 1)):
            book = Book()
            book.submit("a", "buy", 100, 1)
            self.assertEqual(len(book.submit("b", "sell", price, 1)[0].fills), traded)

    def test_each_trade_is_made_at_the_price_of_the_resting_order(self):
        book = Book()
        book.submit("a", "sell", 101, 2)
        book.submit("a", "sell", 103, 2)
        book.submit("a", "sell", 102, 2)
        report = book.submit("b", "buy", 110, 5)[0]
        self.assertEqual(report.fills, [(1, "a", 101, 2), (3, "a", 102, 2), (2, "a", 103, 1)])
        self.assertEqual(book.orders("sell"), [(2, "a", 103, 1, 1)])

    def test_an_order_stops_at_the_first_price_that_it_does_not_accept(self):
        book = Book()
        book.submit("a", "buy", 102, 2)
        book.submit("a", "buy", 100, 2)
        report = book.submit("b", "sell", 101, 5)[0]
        self.assertEqual(told(report)[3:], ([(1, "a", 102, 2)], [], 3))
        self.assertEqual((book.best("buy"), book.best("sell")), (100, 101))

    def test_a_partly_traded_order_keeps_its_place(self):
        book = Book()
        book.submit("a", "sell", 100, 5)
        book.submit("b", "sell", 100, 5)
        book.submit("c", "buy", 100, 2)
        self.assertEqual(book.orders("sell"), [(1, "a", 100, 3, 3), (2, "b", 100, 5, 5)])

    def test_the_last_price(self):
        book = Book()
        book.submit("a", "sell", 101, 2)
        self.assertIsNone(book.last)
        book.submit("b", "buy", 101, 1)
        self.assertEqual(book.last, 101)
        book.submit("b", "buy", 90, 1)
        self.assertEqual(book.last, 101)
        book.submit("a", "sell", 103, 1)
        book.submit("b", "buy", 105, 2)
        self.assertEqual(book.last, 103)
        book.submit("a", "sell", None, 1, kind="now")
        self.assertEqual(book.last, 90)


class OwnOrdersTest(BourseCase):
    """Point 3.7."""

    def test_an_own_order_is_removed_without_a_trade(self):
        book = Book()
        book.submit("a", "sell", 100, 9, shown=2)
        report = book.submit("a", "buy", 100, 4)[0]
        self.assertEqual(told(report)[3:], ([], [1], 4))
        self.assertEqual(book.orders("sell"), [])
        self.assertEqual(book.orders("buy"), [(2, "a", 100, 4, 4)])
        self.assertIsNone(book.last)

    def test_only_while_the_new_order_goes_on(self):
        book = Book()
        book.submit("b", "sell", 100, 4)
        book.submit("a", "sell", 100, 9)
        book.submit("a", "sell", 101, 9)
        self.assertEqual(book.submit("a", "buy", 100, 4)[0].removed, [])
        self.assertEqual(book.submit("a", "buy", 100, 4, kind="now")[0].removed, [2])
        self.assertEqual(book.orders("sell"), [(3, "a", 101, 9, 9)])

    def test_a_sell_order_meets_own_buy_orders(self):
        book = Book()
        book.submit("a", "buy", 100, 4)
        book.submit("b", "buy", 99, 4)
        book.submit("a", "buy", 98, 4)
        report = book.submit("a", "sell", None, 4, kind="now")[0]
        self.assertEqual(told(report)[3:], ([(2, "b", 99, 4)], [1], 0))
        self.assertEqual(book.orders("buy"), [(3, "a", 98, 4, 4)])

    def test_other_names_are_other_houses(self):
        book = Book()
        book.submit("a", "buy", 100, 4)
        self.assertEqual(len(book.submit("ab", "sell", 100, 4)[0].fills), 1)


if __name__ == "__main__":
    unittest.main()
