"""A settlement word by word (points 11.9 to 11.11), worked out from what can be seen of an exchange."""

from fairbourse.money import split
from exchanges import balances
from tables import empty_table, greatest_by_rounds


def debts_by_the_words(exchange):
    """Point 11.9."""
    names = exchange.houses + ["(the hall)"]
    owed = empty_table(len(names))
    for at, house in enumerate(exchange.houses):
        pays = sum(units * price for buyer, _, _, units, price in exchange.trades if buyer == house)
        receives = sum(units * price for _, seller, _, units, price in exchange.trades if seller == house)
        if pays > receives:
            owed[at][-1] = pays - receives
        else:
            owed[-1][at] = receives - pays
    for at, (_, cents, _) in enumerate(exchange.fees.rows()):
        owed[at][-1] += cents
    for debtor, creditor, cents in exchange.debts:
        owed[names.index(debtor)][names.index(creditor)] += cents
    return owed


def bear_by_the_words(cash, house, houses, loss):
    """Let four tiers bear a loss; change the balances. Returns what they bore, and what is left."""
    borne = []
    left = loss
    others = ["fund " + name for name in houses if name != house]
    for tier in (["margin " + house], ["fund " + house], ["skin"], others):
        sizes = [cash[name] for name in tier]
        part = min(left, sum(sizes))
        if sizes:
            for name, cents in zip(tier, split(part, sizes)):
                cash[name] -= cents
        cash["hall"] += part
        borne.append(part)
        left -= part
    return borne, left


class NaiveDay:
    """What a settlement of an exchange has to do; it changes nothing."""

    def __init__(self, exchange):
        self.houses = exchange.houses
        self.owed = debts_by_the_words(exchange)
        self.cash = balances(exchange.cash)
        self.units = balances(exchange.units)
        self.losses = self.bear_losses()
        self.pay = self.make_payments()
        self.fallen = [house for house, pay, debts in zip(self.houses, self.pay, self.owed) if pay < sum(debts)]
        self.deliver(exchange)

    def bear_losses(self):
        losses = []
        held = [self.cash["cash " + house] for house in self.houses]
        pay = greatest_by_rounds(self.owed, held + [sum(self.owed[-1])])
        for at, house in enumerate(self.houses):
            if pay[at] < sum(self.owed[at]):
                loss = self.owed[at][-1] - split(pay[at], self.owed[at])[-1]
                borne, left = bear_by_the_words(self.cash, house, self.houses, loss)
                losses.append((house, borne, left))
        return losses

    def make_payments(self):
        accounts = ["cash " + house for house in self.houses] + ["hall"]
        pay = greatest_by_rounds(self.owed, [self.cash[name] for name in accounts])
        for payer, amount in enumerate(pay):
            self.cash[accounts[payer]] -= amount
        for payer, amount in enumerate(pay):
            for name, cents in zip(accounts, split(amount, self.owed[payer])):
                self.cash[name] += cents
        return pay

    def deliver(self, exchange):
        for symbol in exchange.symbols:
            for house in self.houses:
                rows = [row for row in exchange.trades if row[2] == symbol]
                units = sum(row[3] for row in rows if row[0] == house) - sum(row[3] for row in rows if row[1] == house)
                receiver = "HALL" if units > 0 and house in self.fallen else house
                self.units[receiver + " " + symbol] += units
