"""Tables of debts and lists of amounts, good ones and bad ones; and a model of the payments."""

from fairbourse.money import split

MOST_DEBT = 10 ** 15
MOST_HELD = 10 ** 17


def empty_table(houses):
    return [[0] * houses for _ in range(houses)]


def full_table(houses, debt):
    """A table in which everybody owes this debt to everybody else."""
    return [[0 if debtor == creditor else debt for creditor in range(houses)] for debtor in range(houses)]


def drawn_table(draw, houses, most, density):
    """A table in which a pair of houses has a debt with a probability."""
    owed = empty_table(houses)
    for debtor in range(houses):
        for creditor in range(houses):
            if most > 0 and debtor != creditor and draw.random() < density:
                owed[debtor][creditor] = draw.randint(1, most)
    return owed


def table_with(houses, debtor, creditor, debt):
    """A table with one debt."""
    owed = empty_table(houses)
    owed[debtor][creditor] = debt
    return owed


def bad_tables(houses=None):
    """Tables that break point 6.4, if told with this number of rows."""
    tables = [[], empty_table(14), [[]], [[1]], [[0], [0]], [[0, 0], [0, 0, 0]], [[0, 0], [0]], [[0, 0, 0], [0, 0, 0]]]
    for many in (2, 3, 13):
        for debt in (-1, MOST_DEBT + 1, -10 ** 30, 10 ** 30, True):
            tables.append(table_with(many, 0, many - 1, debt))
            tables.append(table_with(many, many - 1, 0, debt))
        tables.append(table_with(many, 0, 0, 1))
        tables.append(table_with(many, many - 1, many - 1, 5))
    return [owed for owed in tables if houses is None or len(owed) == houses]


def bad_amounts(houses):
    """Lists that are not one amount from 0 to 10 ** 17 for each house."""
    lists = [[], [0] * (houses - 1), [0] * (houses + 1)]
    for bad in (-1, MOST_HELD + 1, -10 ** 30, 10 ** 30, True, None):
        for at in (0, houses - 1):
            lists.append([0] * at + [bad] + [0] * (houses - 1 - at))
    return lists


def round_by_the_words(owed, cash, pay):
    """Point 8.2, word by word."""
    able = []
    for house, debts in enumerate(owed):
        income = sum(split(amount, row)[house] for amount, row in zip(pay, owed))
        able.append(min(sum(debts), cash[house] + income))
    return able


def greatest_by_rounds(owed, cash):
    """Point 8.3, word by word."""
    pay = [sum(debts) for debts in owed]
    while round_by_the_words(owed, cash, pay) != pay:
        pay = round_by_the_words(owed, cash, pay)
    return pay
