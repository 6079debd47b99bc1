"""The fees that houses owe for their trades."""

from fairbourse.money import fee


class Fees:
    """What each house owes, and the millionths of a cent that it carries to its next fee."""

    def __init__(self, houses, rate):
        self._rate = rate
        self._cents = {house: 0 for house in houses}
        self._carried = {house: 0 for house in houses}

    def charge(self, house, amount):
        """Let a house owe the fee on an amount."""
        cents, self._carried[house] = fee(amount, self._rate, self._carried[house])
        self._cents[house] += cents

    def owed_by(self, house):
        """Return the cents that a house owes."""
        return self._cents[house]

    def rows(self):
        """Return a tuple (house, cents, carried millionths) for each house."""
        return [(house, cents, self._carried[house]) for house, cents in self._cents.items()]

    def close(self):
        """Let nobody owe a cent any more; the millionths are still carried."""
        self._cents = {house: 0 for house in self._cents}
