"""The interface: names, arguments, fields, and where they are defined."""

import importlib
import inspect
import pathlib
import unittest

PACKAGE = pathlib.Path(__file__).resolve().parent.parent / "fairbourse"
FUNCTIONS = {
    "money": {
        "split": "(amount, weights)", "deal_order": "(amount, weights)", "deal": "(amount, weights)",
        "fee": "(amount, rate, carried=0)", "format_cents": "(cents)", "parse_cents": "(text)",
    },
    "terms": {"parse_terms": "(text)", "format_terms": "(terms)"},
    "call": {"call_price": "(orders, reference)", "uncross": "(orders, reference)"},
    "netting": {
        "nets": "(trades)", "novate": "(trades, center)", "net_amounts": "(owed)", "bilateral": "(owed)",
        "compress": "(owed)", "unwind": "(owed)",
    },
    "margin": {
        "loss": "(positions, scenario)", "requirement": "(positions, scenarios)",
        "order_requirement": "(positions, orders, scenarios)", "margin_calls": "(requirements, posted)",
    },
    "corporate": {
        "dividend": "(holdings, cents)", "share_split": "(holdings, numerator, denominator, price)",
    },
    "settle": {
        "receipts": "(owed, pay)", "received": "(owed, pay)", "round_of": "(owed, cash, pay)",
        "clearing": "(owed, cash)", "cash_after": "(owed, cash, pay)", "fallen": "(owed, pay)",
        "missing": "(owed, delivered)", "settle_day": "(instruments, owed, cash)",
    },
    "waterfall": {
        "bear": "(loss, tiers)", "tiers_of": "(fallen, margin, shares, skin)", "tear_up": "(left, gains)",
    },
    "tape": {"check_of": "(text)", "write_line": "(number, text)", "read_tape": "(tape)"},
    "day": {
        "settle": "(exchange)", "pay_dividend": "(exchange, symbol, cents)",
        "split_shares": "(exchange, symbol, numerator, denominator)",
    },
    "session": {"parse_command": "(line)", "replay": "(terms, tape)", "state": "(exchange)"},
}
METHODS = {
    ("terms", "Terms"): {"__init__": "(self)"},
    ("book", "Report"): {},
    ("book", "Book"): {
        "__init__": "(self, first_number=1)",
        "submit": "(self, house, side, price, quantity, *, kind='rest', shown=0)",
        "submit_stop": "(self, house, side, trigger, price, quantity)",
        "place": "(self, number, house, side, price, quantity)",
        "cancel": "(self, number, house)",
        "amend": "(self, number, house, price, quantity)",
        "orders": "(self, side)", "stops": "(self)", "best": "(self, side)", "depth": "(self, side)",
    },
    ("market", "Market"): {
        "__init__": "(self, tick, lot, band, reference)", "closing_reference": "(self)", "queue": "(self)",
        "open_quantities": "(self, house, side)",
    },
    ("ledger", "Ledger"): {
        "__init__": "(self)", "open_account": "(self, name, *, may_owe=False)", "accounts": "(self)",
        "balance": "(self, name)", "post": "(self, moves)", "transfer": "(self, source, target, amount)",
        "entries": "(self)", "statement": "(self, name)",
    },
    ("settle", "Delivery"): {"__init__": "(self, owed, held, price)"},
    ("settle", "Settlement"): {"__init__": "(self, deliveries, owed, cash)"},
    ("waterfall", "Default"): {
        "__init__": "(self, fallen, loss, margin, shares, skin, gains)", "borne_by": "(self, house)",
    },
    ("tape", "Tape"): {"__init__": "(self)", "append": "(self, text)", "texts": "(self)", "whole": "(self)"},
    ("exchange", "Exchange"): {
        "__init__": "(self, terms)", "deposit": "(self, house, cents)", "withdraw": "(self, house, cents)",
        "pledge": "(self, house, cents)", "release": "(self, house, cents)", "issue": "(self, house, symbol, units)",
        "owe": "(self, debtor, creditor, cents)",
        "order": "(self, house, symbol, side, price, quantity, *, kind='rest', shown=0)",
        "stop": "(self, house, symbol, side, trigger, price, quantity)", "cancel": "(self, house, symbol, number)",
        "start": "(self, symbol)", "market": "(self, symbol)", "bought": "(self, house, symbol)",
        "needed": "(self, house, extra)",
    },
    ("day", "Day"): {},
    ("session", "Session"): {"__init__": "(self, terms)", "execute": "(self, line)", "tape": "(self)"},
}


def module(name):
    return importlib.import_module("fairbourse." + name)


class InterfaceTest(unittest.TestCase):
    def test_functions(self):
        for name, functions in FUNCTIONS.items():
            for function, signature in functions.items():
                with self.subTest(function):
                    found = getattr(module(name), function)
                    self.assertTrue(inspect.isfunction(found))
                    self.assertEqual(found.__module__, "fairbourse." + name)
                    self.assertEqual(str(inspect.signature(found)), signature)

    def test_methods_stand_in_the_class_itself(self):
        for (name, class_name), methods in METHODS.items():
            found = getattr(module(name), class_name)
            self.assertEqual(found.__module__, "fairbourse." + name)
            for method, signature in methods.items():
                with self.subTest(method):
                    self.assertEqual(str(inspect.signature(vars(found)[method])), signature)

    def test_fields_are_set_when_an_object_is_created(self):
        terms = module("terms").Terms()
        self.assertEqual(set(vars(terms)), {"houses", "instruments", "scenarios", "fund", "fee", "skin"})
        book = module("book").Book()
        self.assertIsNone(book.last)
        report = book.submit("a", "buy", 1, 1)[0]
        self.assertEqual(set(vars(report)), {"number", "house", "side", "fills", "removed", "resting"})
        market = module("market").Market(1, 2, 3, 4)
        self.assertLessEqual({"tick", "lot", "band", "reference", "phase", "book"}, set(vars(market)))
        delivery = module("settle").Delivery([[0]], [0], 0)
        self.assertLessEqual({"delivered", "missing", "held", "price"}, set(vars(delivery)))
        settlement = module("settle").Settlement([], [[0]], [0])
        self.assertLessEqual({"deliveries", "owed", "pay", "paid", "cash", "fallen"}, set(vars(settlement)))
        default = module("waterfall").Default(0, 0, 0, [0], 0, [0])
        self.assertLessEqual({"tiers", "borne", "left", "torn", "uncovered"}, set(vars(default)))
        session = module("session").Session("house a 5\ninstrument X 1 1 1 1")
        self.assertIn("exchange", vars(session))
        fields = {"houses", "symbols", "cash", "units", "trades", "debts", "fallen"}
        self.assertLessEqual(fields, set(vars(session.exchange)))
        self.assertIs(type(session.exchange.market("X")), module("market").Market)
        self.assertIs(type(session.exchange.cash), module("ledger").Ledger)
        self.assertIs(type(session.exchange.units), module("ledger").Ledger)
        day = module("day").settle(session.exchange)
        self.assertLessEqual({"owed", "pay", "losses", "fallen"}, set(vars(day)))

    def test_all_files_can_be_imported(self):
        for path in sorted(PACKAGE.glob("*.py")):
            with self.subTest(path.name):
                self.assertTrue(module(path.stem).__doc__)


if __name__ == "__main__":
    unittest.main()
