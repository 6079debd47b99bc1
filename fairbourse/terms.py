"""The terms of an exchange, and the text that describes them."""

from fairbourse.errors import InvalidLine
from fairbourse.words import is_word_of, read_number

SMALL = "abcdefghijklmnopqrstuvwxyz"
CAPITAL = "ABCDEFGHIJKLMNOPQRSTUVWXYZ"
LONGEST_HOUSE = 12
LONGEST_INSTRUMENT = 6
MOST_HOUSES = 12
MOST_INSTRUMENTS = 6
MOST_SCENARIOS = 12
MOST_CENTS = 1000000000
MOST_STEP = 10000
MOST_RATE = 1000000
MOST_PRICE = 1000000
MOST_MOVE = 1000000


class Terms:
    """The terms of an exchange."""

    def __init__(self):
        self.houses = []
        self.instruments = []
        self.scenarios = []
        self.fund = []
        self.fee = 0
        self.skin = 0


class Draft:
    """What the valid lines of a text have told so far."""

    def __init__(self):
        self._houses = {}
        self._instruments = {}
        self._scenarios = []
        self._fund = {}
        self._fee = None
        self._skin = None

    def take(self, words):
        """Take the words of a line; tell whether the line is valid."""
        match words:
            case ["house", name, cash]:
                return self._take_house(name, cash)
            case ["instrument", name, tick, lot, band, reference]:
                return self._take_instrument(name, tick, lot, band, reference)
            case ["scenario", *moves]:
                return self._take_scenario(moves)
            case ["fund", house, share]:
                return self._take_share(house, share)
            case ["fee", rate]:
                return self._take_fee(rate)
            case ["skin", cents]:
                return self._take_skin(cents)
            case _:
                return False

    def _take_house(self, name, cash):
        amount = read_number(cash, 0, MOST_CENTS)
        if not is_word_of(SMALL, LONGEST_HOUSE, name) or amount is None:
            return False
        if name in self._houses or len(self._houses) == MOST_HOUSES:
            return False
        self._houses[name] = amount
        return True

    def _take_instrument(self, name, tick, lot, band, reference):
        step = read_number(tick, 1, MOST_STEP)
        units = read_number(lot, 1, MOST_STEP)
        width = read_number(band, 0, MOST_RATE)
        price = read_number(reference, 1, MOST_PRICE)
        if step is None or units is None or width is None or price is None:
            return False
        if not is_word_of(CAPITAL, LONGEST_INSTRUMENT, name) or price % step != 0:
            return False
        if name in self._instruments or len(self._instruments) == MOST_INSTRUMENTS or self._scenarios:
            return False
        self._instruments[name] = (name, step, units, width, price)
        return True

    def _take_scenario(self, words):
        moves = [read_number(word, -MOST_MOVE, MOST_MOVE) for word in words]
        if None in moves or len(moves) != len(self._instruments):
            return False
        if not moves or len(self._scenarios) == MOST_SCENARIOS:
            return False
        self._scenarios.append(moves)
        return True

    def _take_share(self, house, share):
        amount = read_number(share, 0, MOST_CENTS)
        if amount is None or house not in self._houses or house in self._fund:
            return False
        self._fund[house] = amount
        return True

    def _take_fee(self, rate):
        if self._fee is not None:
            return False
        self._fee = read_number(rate, 0, MOST_RATE)
        return self._fee is not None

    def _take_skin(self, cents):
        if self._skin is not None:
            return False
        self._skin = read_number(cents, 0, MOST_CENTS)
        return self._skin is not None

    def finished(self):
        """Return the terms that the lines describe."""
        terms = Terms()
        terms.houses = sorted(self._houses.items())
        terms.instruments = sorted(self._instruments.values())
        terms.scenarios = [list(moves) for moves in self._scenarios]
        terms.fund = sorted(self._fund.items())
        terms.fee = 0 if self._fee is None else self._fee
        terms.skin = 0 if self._skin is None else self._skin
        return terms


def parse_terms(text):
    """Return the terms that a text describes."""
    draft = Draft()
    for number, line in enumerate(text.split("\n"), start=1):
        has_effect = line != "" and not line.startswith("#")
        if has_effect and not draft.take(line.split(" ")):
            raise InvalidLine(number)
    return draft.finished()


def format_terms(terms):
    """Return the one text that describes the terms."""
    rows = [("house", *house) for house in sorted(terms.houses)]
    rows.extend([("instrument", *instrument) for instrument in sorted(terms.instruments)])
    rows.extend([("scenario", *moves) for moves in terms.scenarios])
    rows.extend([("fund", *share) for share in sorted(terms.fund)])
    rows.append(("fee", terms.fee))
    rows.append(("skin", terms.skin))
    return "".join([_written_line(row) for row in rows])


def _written_line(row):
    return " ".join([str(word) for word in row]) + "\n"
