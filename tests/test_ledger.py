"""Points 5.1 to 5.4: accounts, entries and statements."""

import random
import unittest

from fairbourse.errors import DuplicateName, InvalidAmount, Overdrawn, Unbalanced, UnknownName
from fairbourse.ledger import Ledger
from support import BourseCase

NO_INTEGERS = (True, False, None, "5", "", 1.0, 0.0, (1,), [])


def ledger_of(*names):
    """A ledger with the account bank, which may owe, and accounts that may not."""
    ledger = Ledger()
    ledger.open_account("bank", may_owe=True)
    for name in names:
        ledger.open_account(name)
    return ledger


def everything(ledger):
    """All that a ledger answers."""
    accounts = ledger.accounts()
    rows = [(name, ledger.balance(name), ledger.statement(name)) for name in accounts]
    return rows, ledger.entries()


class LedgerCase(BourseCase):
    def refused(self, ledger, error, function, *args):
        before = everything(ledger)
        self.raises(error, function, *args)
        self.assertEqual(everything(ledger), before)


class AccountTest(LedgerCase):
    def test_a_new_ledger_has_no_accounts(self):
        self.assertEqual(Ledger().accounts(), [])
        self.assertEqual(Ledger().entries(), [])

    def test_a_new_account_has_the_balance_0(self):
        ledger = Ledger()
        self.assertIsNone(ledger.open_account("till"))
        self.assertIsNone(ledger.open_account("bank", may_owe=True))
        for name in ("till", "bank"):
            self.assertEqual(ledger.balance(name), 0)
            self.assertEqual(ledger.statement(name), [])

    def test_the_names_are_in_ascending_order(self):
        ledger = ledger_of("till", "a b", "Zebra", "a", "B", "10", "9")
        self.assertEqual(ledger.accounts(), ["10", "9", "B", "Zebra", "a", "a b", "bank", "till"])

    def test_two_accounts_with_one_name(self):
        ledger = ledger_of("till")
        ledger.transfer("bank", "till", 5)
        self.refused(ledger, DuplicateName, ledger.open_account, "till")
        self.refused(ledger, DuplicateName, ledger.open_account, "bank")
        with self.assertRaises(DuplicateName):
            ledger.open_account("till", may_owe=True)
        # The account still may not owe.
        self.refused(ledger, Overdrawn, ledger.transfer, "till", "bank", 6)

    def test_an_account_that_there_is_not(self):
        ledger = ledger_of("till")
        for name in ("", "Till", "till ", "safe"):
            self.refused(ledger, UnknownName, ledger.balance, name)
            self.refused(ledger, UnknownName, ledger.statement, name)

    def test_ledgers_share_nothing(self):
        first, second = ledger_of("till"), ledger_of("till")
        first.transfer("bank", "till", 5)
        self.assertEqual(second.balance("till"), 0)
        self.assertEqual(second.entries(), [])
        self.assertEqual(second.transfer("bank", "till", 1), 1)


class PostTest(LedgerCase):
    def test_the_example(self):
        ledger = Ledger()
        ledger.open_account("bank", may_owe=True)
        ledger.open_account("till")
        self.assertEqual(ledger.transfer("bank", "till", 250), 1)
        self.assertEqual(ledger.post([("till", -100), ("bank", 60), ("bank", 40)]), 2)
        self.assertEqual(ledger.statement("bank"), [(1, -250, -250), (2, 100, -150)])
        self.assertEqual(ledger.statement("till"), [(1, 250, 250), (2, -100, 150)])
        self.assertEqual(ledger.entries(), [
            [("bank", -250), ("till", 250)], [("till", -100), ("bank", 60), ("bank", 40)],
        ])

    def test_the_empty_entry(self):
        ledger = ledger_of("till")
        self.assertEqual(ledger.post([]), 1)
        self.assertEqual(ledger.post([]), 2)
        self.assertEqual(ledger.entries(), [[], []])
        self.assertEqual(ledger.statement("till"), [])
        self.assertEqual(ledger.transfer("bank", "till", 3), 3)
        self.assertEqual(ledger.statement("till"), [(3, 3, 3)])

    def test_several_moves_of_one_account(self):
        ledger = ledger_of("till", "safe")
        ledger.post([("till", 5), ("bank", -9), ("till", 2), ("safe", 4), ("till", -2)])
        self.assertEqual([ledger.balance(name) for name in ("bank", "safe", "till")], [-9, 4, 5])
        self.assertEqual(ledger.statement("till"), [(1, 5, 5)])
        self.assertEqual(ledger.entries(), [[("till", 5), ("bank", -9), ("till", 2), ("safe", 4), ("till", -2)]])

    def test_an_account_may_fall_below_0_within_an_entry(self):
        ledger = ledger_of("till")
        self.assertEqual(ledger.post([("till", -5), ("till", 3), ("till", 2)]), 1)
        self.assertEqual(ledger.post([("till", -5), ("bank", -1), ("till", 6)]), 2)
        self.assertEqual(ledger.statement("till"), [(1, 0, 0), (2, 1, 1)])

    def test_moves_of_0(self):
        ledger = ledger_of("till", "safe")
        ledger.post([("till", 0), ("bank", 0)])
        self.assertEqual(ledger.statement("till"), [(1, 0, 0)])
        self.assertEqual(ledger.statement("bank"), [(1, 0, 0)])
        self.assertEqual(ledger.statement("safe"), [])

    def test_a_balance_may_come_to_0_but_not_below(self):
        ledger = ledger_of("till")
        ledger.transfer("bank", "till", 10)
        self.refused(ledger, Overdrawn, ledger.post, [("till", -11), ("bank", 11)])
        self.assertEqual(ledger.post([("till", -10), ("bank", 10)]), 2)
        self.refused(ledger, Overdrawn, ledger.post, [("till", -1), ("bank", 1)])

    def test_each_balance_after_the_entry_counts(self):
        ledger = ledger_of("a", "b", "c")
        ledger.post([("bank", -10), ("a", 5), ("b", 5)])
        for bad in ("a", "b", "c"):
            moves = [("a", 1), ("b", 1), ("c", 1), (bad, -8), ("bank", 5)]
            self.refused(ledger, Overdrawn, ledger.post, moves)

    def test_only_an_account_that_may_owe_owes(self):
        ledger = Ledger()
        ledger.open_account("a", may_owe=True)
        ledger.open_account("b", may_owe=False)
        ledger.open_account("c")
        ledger.post([("a", -10 ** 30), ("b", 10 ** 30)])
        self.assertEqual(ledger.balance("a"), -10 ** 30)
        self.refused(ledger, Overdrawn, ledger.post, [("c", -1), ("a", 1)])
        self.refused(ledger, Overdrawn, ledger.post, [("b", -10 ** 30 - 1), ("a", 10 ** 30 + 1)])

    def test_the_sum_is_0(self):
        ledger = ledger_of("till", "safe")
        for moves in ([("till", 1)], [("bank", -1)], [("bank", -5), ("till", 4)], [("bank", -5), ("till", 4), ("safe", 2)]):
            self.refused(ledger, Unbalanced, ledger.post, moves)

    def test_no_integers(self):
        ledger = ledger_of("till")
        for amount in NO_INTEGERS:
            self.refused(ledger, InvalidAmount, ledger.post, [("till", amount)])
            self.refused(ledger, InvalidAmount, ledger.post, [("till", 1), ("bank", -1), ("till", amount)])
            self.refused(ledger, InvalidAmount, ledger.post, [("till", amount), ("till", 1), ("bank", -1)])
        self.refused(ledger, InvalidAmount, ledger.post, [("till", True), ("bank", -1)])
        self.refused(ledger, InvalidAmount, ledger.post, [("till", False), ("bank", 0)])

    def test_unknown_accounts(self):
        ledger = ledger_of("till")
        self.refused(ledger, UnknownName, ledger.post, [("safe", 0)])
        self.refused(ledger, UnknownName, ledger.post, [("bank", -1), ("till", 1), ("safe", 0)])
        self.refused(ledger, UnknownName, ledger.post, [("", 1), ("bank", -1)])

    def test_the_order_of_the_checks(self):
        ledger = ledger_of("till")
        post = ledger.post
        self.refused(ledger, UnknownName, post, [("safe", None)])
        self.refused(ledger, UnknownName, post, [("safe", 1), ("till", None)])
        self.refused(ledger, InvalidAmount, post, [("till", None), ("safe", 1)])
        self.refused(ledger, InvalidAmount, post, [("till", 5), ("till", True), ("safe", 1)])
        self.refused(ledger, UnknownName, post, [("till", -5), ("safe", 1)])
        self.refused(ledger, InvalidAmount, post, [("till", -5), ("till", "1")])
        self.refused(ledger, Unbalanced, post, [("till", -5), ("bank", 4)])
        self.refused(ledger, Overdrawn, post, [("till", -5), ("bank", 5)])

    def test_the_numbers_count_posted_entries_alone(self):
        ledger = ledger_of("till")
        self.assertEqual(ledger.post([]), 1)
        self.refused(ledger, Unbalanced, ledger.post, [("till", 1)])
        self.refused(ledger, InvalidAmount, ledger.transfer, "bank", "till", -1)
        self.assertEqual(ledger.transfer("bank", "till", 1), 2)
        self.assertEqual(ledger.statement("till"), [(2, 1, 1)])


class TransferTest(LedgerCase):
    def test_an_amount_is_moved(self):
        ledger = ledger_of("till", "safe")
        self.assertEqual(ledger.transfer("bank", "till", 8), 1)
        self.assertEqual(ledger.transfer("till", "safe", 8), 2)
        self.assertEqual([ledger.balance(name) for name in ledger.accounts()], [-8, 8, 0])
        self.assertEqual(ledger.statement("till"), [(1, 8, 8), (2, -8, 0)])

    def test_nothing_is_moved(self):
        ledger = ledger_of("till", "safe")
        self.assertEqual(ledger.transfer("till", "safe", 0), 1)
        self.assertEqual(ledger.statement("till"), [(1, 0, 0)])
        self.assertEqual(ledger.statement("safe"), [(1, 0, 0)])

    def test_an_account_to_itself(self):
        ledger = ledger_of("till")
        self.assertEqual(ledger.transfer("till", "till", 8), 1)
        self.assertEqual(ledger.statement("till"), [(1, 0, 0)])

    def test_the_amount_is_an_integer_from_0_up(self):
        ledger = ledger_of("till")
        for amount in NO_INTEGERS + (-1, -10 ** 30):
            self.refused(ledger, InvalidAmount, ledger.transfer, "bank", "till", amount)
            # The amount is checked first.
            self.refused(ledger, InvalidAmount, ledger.transfer, "safe", "vault", amount)

    def test_the_other_errors(self):
        ledger = ledger_of("till")
        ledger.transfer("bank", "till", 3)
        self.refused(ledger, UnknownName, ledger.transfer, "safe", "till", 1)
        self.refused(ledger, UnknownName, ledger.transfer, "till", "safe", 1)
        self.refused(ledger, UnknownName, ledger.transfer, "till", "safe", 4)
        self.refused(ledger, Overdrawn, ledger.transfer, "till", "bank", 4)


class ListsTest(LedgerCase):
    def test_lists_that_are_returned_are_new_ones(self):
        ledger = ledger_of("till")
        ledger.transfer("bank", "till", 3)
        before = everything(ledger)
        ledger.accounts().append("safe")
        ledger.statement("till").append((2, 5, 8))
        ledger.entries().append([("till", 5)])
        ledger.entries()[0].append(("till", 5))
        ledger.entries()[0].clear()
        self.assertEqual(everything(ledger), before)

    def test_a_list_that_is_passed_is_copied(self):
        ledger = ledger_of("till")
        moves = [("bank", -3), ("till", 3)]
        ledger.post(moves)
        self.assertEqual(moves, [("bank", -3), ("till", 3)])
        before = everything(ledger)
        moves.append(("till", 5))
        moves[0] = ("bank", 7)
        self.assertEqual(everything(ledger), before)


class RandomEntriesTest(LedgerCase):
    def test_statements_and_balances_tell_what_was_posted(self):
        draw = random.Random(8)
        names = ["bank", "a", "b", "c"]
        for _ in range(40):
            ledger = ledger_of("a", "b", "c")
            posted = []
            for _ in range(40):
                moves = [(draw.choice(names), draw.randint(-9, 9)) for _ in range(draw.randint(0, 5))]
                if draw.random() < 0.8:
                    moves.append((draw.choice(names), -sum(amount for _, amount in moves)))
                self.post(ledger, posted, moves)
            self.compare(ledger, posted, names)

    def post(self, ledger, posted, moves):
        balances = {name: ledger.balance(name) for name in ledger.accounts()}
        for name, amount in moves:
            balances[name] += amount
        if sum(amount for _, amount in moves) != 0:
            self.refused(ledger, Unbalanced, ledger.post, moves)
        elif min(balances["a"], balances["b"], balances["c"]) < 0:
            self.refused(ledger, Overdrawn, ledger.post, moves)
        else:
            posted.append(moves)
            self.assertEqual(ledger.post(moves), len(posted))

    def compare(self, ledger, posted, names):
        self.assertEqual(ledger.entries(), posted)
        for name in names:
            rows, balance = [], 0
            for number, moves in enumerate(posted, start=1):
                amounts = [amount for account, amount in moves if account == name]
                balance += sum(amounts)
                if amounts:
                    rows.append((number, sum(amounts), balance))
            self.assertEqual(ledger.statement(name), rows)
            self.assertEqual(ledger.balance(name), balance)


if __name__ == "__main__":
    unittest.main()
