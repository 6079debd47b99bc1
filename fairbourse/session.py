"""Sessions: commands in words, the lines that they return, and the tape of them."""

from fairbourse.accounts import HALL
from fairbourse.day import pay_dividend, settle, split_shares
from fairbourse.errors import BourseError, BrokenTape, InvalidCommand
from fairbourse.exchange import Exchange
from fairbourse.parts import SIDES
from fairbourse.tape import Tape, read_tape
from fairbourse.terms import parse_terms
from fairbourse.words import read_number

MOST_NUMBER = 1000000000
FORMS = {
    "deposit": ("word", "number"),
    "withdraw": ("word", "number"),
    "pledge": ("word", "number"),
    "release": ("word", "number"),
    "issue": ("word", "word", "number"),
    "owe": ("word", "word", "number"),
    "order": ("word", "word", "word", "price", "number", "word", "number"),
    "stop": ("word", "word", "word", "number", "price", "number"),
    "cancel": ("word", "word", "number"),
    "start": ("word",),
    "settle": (),
    "dividend": ("word", "number"),
    "split": ("word", "number", "number"),
}


def parse_command(line):
    """Return the name of a command and the list of its values."""
    words = line.split(" ")
    form = FORMS.get(words[0])
    if form is None or len(words) != len(form) + 1 or "\n" in line:
        raise InvalidCommand("there is no such command")
    return words[0], [_value(kind, word) for kind, word in zip(form, words[1:])]


def _value(kind, word):
    """Return what a word of this kind means."""
    if kind == "price" and word == "market":
        return None
    value = word if kind == "word" else read_number(word, 0, MOST_NUMBER)
    if value is None or value == "":
        raise InvalidCommand("a word of the command is invalid")
    return value


class Session:
    """An exchange that takes commands in words and writes a tape."""

    def __init__(self, terms):
        self.exchange = Exchange(parse_terms(terms))
        self._tape = Tape()

    def execute(self, line):
        """Execute a command; return its lines."""
        name, values = parse_command(line)
        lines = self._lines_of([name] + values)
        self._tape.append(line)
        return lines

    def tape(self):
        """Return the tape."""
        return self._tape.whole()

    def _lines_of(self, command):
        """Execute a command that returns lines, or one that returns none."""
        match command:
            case ["order", house, symbol, side, price, quantity, kind, shown]:
                reports = self.exchange.order(house, symbol, side, price, quantity, kind=kind, shown=shown)
                return _report_lines(reports)
            case ["stop", house, symbol, side, trigger, price, quantity]:
                return _report_lines(self.exchange.stop(house, symbol, side, trigger, price, quantity))
            case ["cancel", house, symbol, number]:
                return [f"cancelled {self.exchange.cancel(house, symbol, number)}"]
            case ["start", symbol]:
                return _start_lines(self.exchange.start(symbol))
            case ["settle"]:
                return _day_lines(self.exchange.houses, settle(self.exchange))
            case ["dividend", symbol, cents]:
                return _dividend_lines(pay_dividend(self.exchange, symbol, cents))
            case ["split", symbol, numerator, denominator]:
                return _split_lines(split_shares(self.exchange, symbol, numerator, denominator))
            case _:
                self._move(command)
                return []

    def _move(self, command):
        """Execute a command that returns no lines."""
        match command:
            case ["deposit", house, cents]:
                self.exchange.deposit(house, cents)
            case ["withdraw", house, cents]:
                self.exchange.withdraw(house, cents)
            case ["pledge", house, cents]:
                self.exchange.pledge(house, cents)
            case ["release", house, cents]:
                self.exchange.release(house, cents)
            case ["issue", house, symbol, units]:
                self.exchange.issue(house, symbol, units)
            case ["owe", debtor, creditor, cents]:
                self.exchange.owe(debtor, creditor, cents)


def _report_lines(reports):
    lines = []
    for report in reports:
        lines.append(f"order {report.number} rests {report.resting}")
        lines.extend([f"fill {number} {house} {price} {units}" for number, house, price, units in report.fills])
        lines.extend([f"removed {number}" for number in report.removed])
    return lines


def _start_lines(started):
    price, count = started
    return [f"price {price} fills {count}"]


def _day_lines(houses, day):
    """Return the lines of a settlement; the hall stands behind the houses."""
    names = houses + [HALL]
    lines = [f"paid {name} {cents} of {sum(debts)}" for name, cents, debts in zip(names, day.pay, day.owed)]
    for house, borne, left in day.losses:
        words = " ".join([str(cents) for cents in borne])
        lines.append(f"loss {house} {words} left {left}")
    return lines + [f"fallen {house}" for house in day.fallen]


def _dividend_lines(rows):
    return [f"received {house} {cents}" for house, cents in rows]


def _split_lines(rows):
    return [f"holds {house} {units} {cents}" for house, units, cents in rows]


def replay(terms, tape):
    """Return a new session that has executed the commands of the good beginning of a tape."""
    session = Session(terms)
    texts, _ = read_tape(tape)
    for text in texts:
        try:
            session.execute(text)
        except BourseError as wrong:
            raise BrokenTape("a command of the tape raises an error") from wrong
    return session


def state(exchange):
    """Return all that the commands have changed in an exchange, as tuples and lists."""
    return (
        _balances(exchange.cash),
        _balances(exchange.units),
        [_market_state(symbol, exchange.market(symbol)) for symbol in exchange.symbols],
        list(exchange.trades),
        list(exchange.debts),
        list(exchange.fallen),
        exchange.fees.rows(),
    )


def _balances(ledger):
    return [(name, ledger.balance(name)) for name in ledger.accounts()]


def _market_state(symbol, market):
    book = market.book
    sides = [(book.orders(side), book.shown_parts(side)) for side in SIDES]
    return symbol, market.phase, market.reference, book.last, market.queue(), sides, book.stops()
