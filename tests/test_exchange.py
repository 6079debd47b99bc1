"""Points 11.1 to 11.3 and 11.12: accounts, and the commands that move cash, margin and units."""

import unittest

from fairbourse.day import settle
from fairbourse.errors import HouseFallen, InvalidAmount, MarginShort, Overdrawn, UnknownName
from fairbourse.exchange import Exchange
from fairbourse.terms import Terms, parse_terms
from exchanges import FREE, MOST_PAID_IN, NO_AMOUNTS, PLAIN, ExchangeCase, balances, exchange_of

MOVES_OF_CASH = ("deposit", "withdraw", "pledge", "release")


def exchange_with_fallen_house():
    """An exchange in which cedar has fallen."""
    exchange = exchange_of()
    exchange.owe("cedar", "alder", 51)
    settle(exchange)
    return exchange


class StartTest(ExchangeCase):
    def test_names(self):
        exchange = exchange_of("house b 5\nhouse a 6\nhouse ab 7\ninstrument Z 1 1 1 1\ninstrument AB 1 1 1 1\ninstrument B 1 1 1 1")
        self.assertEqual(exchange.houses, ["a", "ab", "b"])
        self.assertEqual(exchange.symbols, ["AB", "B", "Z"])

    def test_names_in_ascending_order_whatever_the_order_of_the_terms(self):
        terms = Terms()
        terms.houses = [("b", 5), ("a", 6)]
        terms.instruments = [("Y", 1, 1, 1, 1), ("X", 1, 1, 2, 1)]
        exchange = Exchange(terms)
        self.assertEqual((exchange.houses, exchange.symbols), (["a", "b"], ["X", "Y"]))
        self.assertEqual((exchange.market("X").band, exchange.cash.balance("cash a")), (2, 6))

    def test_fields_at_the_start(self):
        exchange = exchange_of()
        self.assertEqual((exchange.trades, exchange.debts, exchange.fallen), ([], [], []))

    def test_the_accounts_and_balances_of_the_cash_ledger(self):
        exchange = exchange_of()
        self.assertEqual(balances(exchange.cash), {
            "outside": -300750, "hall": 0, "skin": 700, "cash alder": 99000, "margin alder": 0, "fund alder": 1000,
            "cash birch": 199500, "margin birch": 0, "fund birch": 500, "cash cedar": 50, "margin cedar": 0,
            "fund cedar": 0,
        })

    def test_the_accounts_and_balances_of_the_ledger_of_units(self):
        exchange = exchange_of()
        names = ["ISSUER ABC", "HALL ABC", "alder ABC", "birch ABC", "cedar ABC"]
        names += ["ISSUER XY", "HALL XY", "alder XY", "birch XY", "cedar XY"]
        self.assertEqual(balances(exchange.units), {name: 0 for name in names})

    def test_the_accounts_that_may_owe(self):
        exchange = exchange_of()
        for ledger, owing in ((exchange.cash, {"outside"}), (exchange.units, {"ISSUER ABC", "ISSUER XY"})):
            for name in ledger.accounts():
                other = "skin" if ledger is exchange.cash else "HALL ABC"
                if name in owing:
                    ledger.transfer(name, other, 10 ** 12)
                elif name != other:
                    self.raises(Overdrawn, ledger.transfer, name, other, 10 ** 12)

    def test_terms_without_houses_and_instruments(self):
        exchange = Exchange(Terms())
        self.assertEqual((exchange.houses, exchange.symbols), ([], []))
        self.assertEqual(balances(exchange.cash), {"outside": 0, "hall": 0, "skin": 0})
        self.assertEqual(balances(exchange.units), {})

    def test_houses_with_the_names_of_other_accounts(self):
        exchange = exchange_of("house hall 5\nhouse skin 6\nhouse outside 7\nskin 9\nfund hall 2")
        self.check_cash(exchange, outside=-27, hall=0, skin=9, cash_hall=3, fund_hall=2, cash_skin=6, cash_outside=7)

    def test_more_cash_than_may_be_paid_in(self):
        most = MOST_PAID_IN
        self.check_cash(exchange_of(f"house a {most}"), outside=-most, cash_a=most)
        self.check_cash(exchange_of(f"house a 1\nskin {most - 1}"), outside=-most, skin=most - 1)
        self.check_cash(exchange_of(f"house a {most - 6}\nhouse b 5\nskin 1\nfund b 5"), outside=-most, fund_b=5)
        for text in (f"house a {most}\nskin 1", f"house a 1\nskin {most}", f"house a {most}\nhouse b 1",
                     f"house a {most - 6}\nhouse b 5\nskin 2", f"house a {most}\nhouse b {most}\nskin {most}"):
            self.raises(InvalidAmount, Exchange, parse_terms(text))

    def test_a_house_with_less_cash_than_its_share(self):
        self.check_cash(exchange_of("house a 5\nhouse b 0\nfund a 5\nfund b 0"), cash_a=0, fund_a=5, cash_b=0, fund_b=0)
        for text in ("house a 5\nfund a 6", "house a 0\nfund a 1", "house a 5\nhouse b 99\nfund a 6\nfund b 1",
                     "house a 99\nhouse b 5\nfund b 6"):
            self.raises(Overdrawn, Exchange, parse_terms(text))

    def test_more_cash_than_allowed_and_a_share_that_is_too_great(self):
        text = f"house a 5\nhouse b {MOST_PAID_IN}\nfund a 6"
        self.raises(InvalidAmount, Exchange, parse_terms(text))

    def test_the_terms_stay_as_they_were_and_are_copied(self):
        terms = parse_terms(PLAIN)
        before = [list(row) for row in (terms.houses, terms.instruments, terms.fund)]
        exchange = Exchange(terms)
        self.assertEqual([terms.houses, terms.instruments, terms.fund], before)
        self.assertEqual(terms.scenarios, [[-20, 10], [20, -5]])
        needed = exchange.needed("alder", [(0, 10)])
        terms.scenarios[0][0] = -99
        terms.scenarios.clear()
        terms.houses.clear()
        terms.instruments.clear()
        self.assertEqual(exchange.needed("alder", [(0, 10)]), needed)
        self.assertEqual(exchange.houses, ["alder", "birch", "cedar"])
        self.assertEqual(exchange.symbols, ["ABC", "XY"])

    def test_two_exchanges_of_the_same_terms(self):
        terms = parse_terms(PLAIN)
        first, second = Exchange(terms), Exchange(terms)
        first.deposit("alder", 5)
        first.issue("alder", "ABC", 5)
        first.pledge("alder", 500)
        first.order("alder", "ABC", "buy", 1000, 10)
        first.owe("alder", "birch", 1)
        self.assertEqual(balances(second.cash), balances(exchange_of().cash))
        self.assertEqual(balances(second.units), balances(exchange_of().units))
        self.assertEqual((second.debts, second.market("ABC").queue()), ([], []))


class CashTest(ExchangeCase):
    def test_deposit(self):
        exchange = exchange_of()
        self.assertIsNone(exchange.deposit("alder", 25))
        self.check_cash(exchange, outside=-300775, cash_alder=99025, margin_alder=0, cash_birch=199500)
        exchange.deposit("alder", 0)
        self.check_cash(exchange, outside=-300775, cash_alder=99025)

    def test_the_greatest_deposit(self):
        for cents in (MOST_PAID_IN - 300750 + 1, 10 ** 30):
            self.refused(exchange_of(), InvalidAmount, "deposit", "alder", cents)
        exchange = exchange_of()
        exchange.deposit("cedar", MOST_PAID_IN - 300750)
        self.check_cash(exchange, outside=-MOST_PAID_IN)
        self.refused(exchange, InvalidAmount, "deposit", "alder", 1)
        exchange.deposit("alder", 0)
        exchange.withdraw("alder", 7)
        self.refused(exchange, InvalidAmount, "deposit", "alder", 8)
        exchange.deposit("alder", 7)
        self.check_cash(exchange, outside=-MOST_PAID_IN)

    def test_withdraw(self):
        exchange = exchange_of()
        self.assertIsNone(exchange.withdraw("alder", 25))
        self.check_cash(exchange, outside=-300725, cash_alder=98975)
        self.refused(exchange, Overdrawn, "withdraw", "alder", 98976)
        exchange.withdraw("alder", 98975)
        self.check_cash(exchange, outside=-201750, cash_alder=0, fund_alder=1000)
        self.refused(exchange, Overdrawn, "withdraw", "alder", 1)
        exchange.withdraw("alder", 0)

    def test_pledge(self):
        exchange = exchange_of()
        self.assertIsNone(exchange.pledge("alder", 25))
        self.check_cash(exchange, outside=-300750, cash_alder=98975, margin_alder=25, margin_birch=0)
        self.refused(exchange, Overdrawn, "pledge", "alder", 98976)
        exchange.pledge("alder", 98975)
        self.check_cash(exchange, cash_alder=0, margin_alder=99000)
        self.refused(exchange, Overdrawn, "pledge", "alder", 1)
        self.refused(exchange, Overdrawn, "withdraw", "alder", 1)

    def test_release(self):
        exchange = exchange_of()
        exchange.pledge("alder", 100)
        self.assertIsNone(exchange.release("alder", 30))
        self.check_cash(exchange, cash_alder=98930, margin_alder=70)
        self.refused(exchange, MarginShort, "release", "alder", 71)
        self.refused(exchange, MarginShort, "release", "alder", 10 ** 30)
        exchange.release("alder", 0)
        exchange.release("alder", 70)
        self.check_cash(exchange, cash_alder=99000, margin_alder=0)
        exchange.release("alder", 0)
        self.refused(exchange, MarginShort, "release", "alder", 1)

    def test_margin_is_released_down_to_what_is_needed(self):
        exchange = exchange_of()
        exchange.pledge("alder", 1000)
        exchange.order("alder", "ABC", "buy", 1000, 30)
        self.assertEqual(exchange.needed("alder", []), (600, 0))
        self.refused(exchange, MarginShort, "release", "alder", 401)
        self.refused(exchange, MarginShort, "release", "alder", 1000)
        exchange.release("alder", 400)
        self.refused(exchange, MarginShort, "release", "alder", 1)
        exchange.release("alder", 0)
        exchange.cancel("alder", "ABC", 1)
        exchange.release("alder", 600)
        self.check_cash(exchange, margin_alder=0)

    def test_amounts_that_are_none(self):
        exchange = exchange_of()
        exchange.pledge("alder", 10)
        for command in MOVES_OF_CASH:
            for bad in NO_AMOUNTS:
                self.refused(exchange, InvalidAmount, command, "alder", bad)

    def test_houses_that_give_no_commands(self):
        exchange = exchange_with_fallen_house()
        for command in MOVES_OF_CASH:
            for cents in (0, 5, -1, 10 ** 12):
                for name in ("", "dogwood", "Alder", "hall", "outside", "cash alder", "alder "):
                    self.refused(exchange, UnknownName, command, name, cents)
                self.refused(exchange, HouseFallen, command, "cedar", cents)


class IssueTest(ExchangeCase):
    def test_units_come_from_the_issuer(self):
        exchange = exchange_of()
        self.assertIsNone(exchange.issue("alder", "ABC", 25))
        exchange.issue("birch", "ABC", 5)
        exchange.issue("alder", "XY", 0)
        exchange.issue("alder", "ABC", 1)
        self.check_units(exchange, ISSUER_ABC=-31, HALL_ABC=0, alder_ABC=26, birch_ABC=5, cedar_ABC=0)
        self.check_units(exchange, ISSUER_XY=0, alder_XY=0)

    def test_many_units(self):
        exchange = exchange_of()
        exchange.issue("alder", "XY", 10 ** 9)
        exchange.issue("alder", "XY", 10 ** 20)
        self.check_units(exchange, ISSUER_XY=-10 ** 9 - 10 ** 20, alder_XY=10 ** 9 + 10 ** 20)

    def test_errors_in_their_order(self):
        exchange = exchange_with_fallen_house()
        for units in (0, 5, -1):
            for symbol in ("ABC", "ZZ", ""):
                for name in ("", "dogwood", "HALL"):
                    self.refused(exchange, UnknownName, "issue", name, symbol, units)
                self.refused(exchange, HouseFallen, "issue", "cedar", symbol, units)
            for symbol in ("", "ZZ", "abc", "ABC ", "alder"):
                self.refused(exchange, UnknownName, "issue", "alder", symbol, units)
        for bad in NO_AMOUNTS:
            self.refused(exchange, InvalidAmount, "issue", "alder", "ABC", bad)


class OweTest(ExchangeCase):
    def test_debts_are_registered_in_their_order(self):
        exchange = exchange_of()
        self.assertIsNone(exchange.owe("birch", "alder", 25))
        exchange.owe("alder", "birch", 1)
        exchange.owe("birch", "alder", 25)
        exchange.owe("birch", "cedar", 7)
        expected = [("birch", "alder", 25), ("alder", "birch", 1), ("birch", "alder", 25), ("birch", "cedar", 7)]
        self.assertEqual(exchange.debts, expected)
        self.check_cash(exchange, cash_alder=99000, cash_birch=199500)

    def test_at_most_9999_from_one_house_to_another_one(self):
        exchange = exchange_of()
        self.refused(exchange, InvalidAmount, "owe", "alder", "birch", 10000)
        self.refused(exchange, InvalidAmount, "owe", "alder", "birch", 10 ** 30)
        exchange.owe("alder", "birch", 9999)
        self.refused(exchange, InvalidAmount, "owe", "alder", "birch", 1)
        exchange.owe("birch", "alder", 9000)
        exchange.owe("alder", "cedar", 9999)
        exchange.owe("cedar", "birch", 9999)
        self.refused(exchange, InvalidAmount, "owe", "birch", "alder", 1000)
        exchange.owe("birch", "alder", 998)
        self.refused(exchange, InvalidAmount, "owe", "birch", "alder", 2)
        exchange.owe("birch", "alder", 1)
        self.refused(exchange, InvalidAmount, "owe", "birch", "alder", 1)
        self.assertEqual(len(exchange.debts), 6)

    def test_debts_can_be_registered_again_behind_a_settlement(self):
        exchange = exchange_of()
        exchange.owe("alder", "birch", 9999)
        settle(exchange)
        exchange.owe("alder", "birch", 9999)
        self.assertEqual(exchange.debts, [("alder", "birch", 9999)])

    def test_a_house_owes_nothing_to_itself(self):
        for cents in (1, 5, 9999, 0, -1):
            self.refused(exchange_of(), InvalidAmount, "owe", "alder", "alder", cents)

    def test_amounts_that_are_none(self):
        for bad in (0,) + NO_AMOUNTS:
            self.refused(exchange_of(), InvalidAmount, "owe", "alder", "birch", bad)

    def test_the_debtor_is_checked_before_the_creditor(self):
        exchange = exchange_with_fallen_house()
        for cents in (5, 0, 10000):
            for other in ("alder", "dogwood", "cedar", ""):
                self.refused(exchange, UnknownName, "owe", "dogwood", other, cents)
                self.refused(exchange, HouseFallen, "owe", "cedar", other, cents)
            self.refused(exchange, UnknownName, "owe", "alder", "dogwood", cents)
            self.refused(exchange, HouseFallen, "owe", "alder", "cedar", cents)


class ReturnedListsTest(ExchangeCase):
    def test_changing_what_an_exchange_returned_changes_nothing(self):
        exchange = exchange_of(FREE)
        exchange.issue("alder", "ABC", 50)
        exchange.start("ABC")
        exchange.order("alder", "ABC", "sell", 100, 20)
        reports = exchange.order("birch", "ABC", "buy", 100, 5)
        before = (list(exchange.trades), exchange.market("ABC").book.orders("sell"))
        reports[0].fills.clear()
        reports[0].fills.append((1, "cedar", 1, 1))
        reports[0].house = "cedar"
        reports.clear()
        for rows in (exchange.market("ABC").queue(), exchange.market("ABC").open_quantities("alder", "sell"),
                     exchange.market("ABC").book.orders("sell"), exchange.cash.accounts(), exchange.cash.entries(),
                     exchange.units.statement("alder ABC"), exchange.fees.rows()):
            rows.append("x")
            rows[0] = "y"
        extra = [(0, 5)]
        exchange.needed("alder", extra)
        self.assertEqual(extra, [(0, 5)])
        self.assertEqual((exchange.trades, exchange.market("ABC").book.orders("sell")), before)
        self.assertEqual(before, ([("birch", "alder", "ABC", 5, 100)], [(1, "alder", 100, 15, 15)]))
        self.assertEqual(len(exchange.cash.accounts()), 12)
        self.assertEqual(exchange.market("ABC").open_quantities("alder", "sell"), [15])


if __name__ == "__main__":
    unittest.main()
