"""A ledger: accounts, and entries whose amounts sum to 0."""

from fairbourse.errors import DuplicateName, InvalidAmount, Overdrawn, Unbalanced, UnknownName
from fairbourse.integers import is_integral


class Ledger:
    """Accounts with their balances, and all entries that were posted."""

    def __init__(self):
        self._balances = {}
        self._may_owe = {}
        self._statements = {}
        self._entries = []

    def open_account(self, name, *, may_owe=False):
        """Open an account with the balance 0."""
        if name in self._balances:
            raise DuplicateName("there is an account with this name")
        self._balances[name] = 0
        self._may_owe[name] = may_owe
        self._statements[name] = []

    def accounts(self):
        """Return the names of all accounts in ascending order."""
        return sorted(self._balances)

    def balance(self, name):
        """Return the balance of an account."""
        self._check_account(name)
        return self._balances[name]

    def post(self, moves):
        """Post an entry, a list of moves (account, amount); return its number."""
        sums = self._sums(moves)
        self._check_sums(sums)
        self._entries.append([(name, amount) for name, amount in moves])
        number = len(self._entries)
        for name, amount in sums.items():
            self._balances[name] += amount
            self._statements[name].append((number, amount, self._balances[name]))
        return number

    def transfer(self, source, target, amount):
        """Post an entry that moves an amount; return its number."""
        if not is_integral(amount) or amount < 0:
            raise InvalidAmount("the amount is not an integer from 0 up")
        return self.post([(source, -amount), (target, amount)])

    def entries(self):
        """Return the moves of all entries in their order."""
        return [list(moves) for moves in self._entries]

    def statement(self, name):
        """Return a tuple (number, amount, balance) for each entry that names an account."""
        self._check_account(name)
        return list(self._statements[name])

    def _check_account(self, name):
        if name not in self._balances:
            raise UnknownName("there is no account with this name")

    def _sums(self, moves):
        """Return the sum of the amounts of an entry for each account that it names."""
        sums = {}
        for name, amount in moves:
            self._check_account(name)
            if not is_integral(amount):
                raise InvalidAmount("an amount is not an integer")
            sums[name] = sums.get(name, 0) + amount
        return sums

    def _check_sums(self, sums):
        if sum(sums.values()) != 0:
            raise Unbalanced("the amounts of the entry do not sum to 0")
        for name, amount in sums.items():
            if self._balances[name] + amount < 0 and not self._may_owe[name]:
                raise Overdrawn("an account would have a balance below 0")
