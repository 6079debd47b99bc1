"""Points 11.15 to 11.17: commands in words, their lines, the tape of a session, and the state of an exchange."""

import random
import unittest

from fairbourse.day import settle
from fairbourse.errors import (
    BrokenTape, HouseFallen, InvalidAmount, InvalidCommand, InvalidLine, InvalidOrder, MarginShort, NotOwner, OutOfBand,
    Overdrawn, UnknownName, UnknownOrder, WrongPhase,
)
from fairbourse.exchange import Exchange
from fairbourse.session import Session, parse_command, replay, state
from fairbourse.tape import Tape, read_tape
from exchanges import FREE, PLAIN, dump, exchange_of
from support import BourseCase

MOST = 10 ** 9
# A line of each form, its values, and where its numbers stand among the words.
FORMS = [
    ("deposit alder 5", ["alder", 5], [2]),
    ("withdraw alder 5", ["alder", 5], [2]),
    ("pledge alder 5", ["alder", 5], [2]),
    ("release alder 5", ["alder", 5], [2]),
    ("issue alder ABC 5", ["alder", "ABC", 5], [3]),
    ("owe alder birch 5", ["alder", "birch", 5], [3]),
    ("order alder ABC buy 100 20 rest 0", ["alder", "ABC", "buy", 100, 20, "rest", 0], [4, 5, 7]),
    ("order alder ABC sell market 20 now 0", ["alder", "ABC", "sell", None, 20, "now", 0], [5, 7]),
    ("stop alder ABC buy 101 100 20", ["alder", "ABC", "buy", 101, 100, 20], [4, 5, 6]),
    ("stop alder ABC sell 101 market 20", ["alder", "ABC", "sell", 101, None, 20], [4, 6]),
    ("cancel alder ABC 7", ["alder", "ABC", 7], [3]),
    ("start ABC", ["ABC"], []),
    ("settle", [], []),
    ("dividend ABC 3", ["ABC", 3], [2]),
    ("split ABC 3 2", ["ABC", 3, 2], [2, 3]),
]
PRICES = {"order": 4, "stop": 5}
BAD_NUMBERS = ("-1", "+1", "-0", "+0", "01", "00", "1000000001", "9" * 30, "9" * 5000, "1.0", "1_000", "1e3", "x", "0x1", "\u0661",
               "five", "None", "True", "1\n", "\u00b2")


class ParseTest(BourseCase):
    def refused(self, line):
        self.raises(InvalidCommand, parse_command, line)

    def test_each_form(self):
        for line, values, _ in FORMS:
            self.assertEqual(parse_command(line), (line.split(" ")[0], values))
            self.assertTrue(all(type(value) in (str, int, type(None)) for value in parse_command(line)[1]))

    def test_a_word_more_or_less(self):
        for line, _, _ in FORMS:
            words = line.split(" ")
            for at in range(len(words)):
                self.refused(" ".join(words[:at] + words[at + 1:]))
            for at in range(len(words) + 1):
                for more in ("5", "alder", "market", "settle"):
                    self.refused(" ".join(words[:at] + [more] + words[at:]))

    def test_spaces(self):
        for line, _, _ in FORMS:
            words = line.split(" ")
            self.refused(line + " ")
            self.refused(" " + line)
            self.refused(line + "\n")
            self.refused("\n" + line)
            for at in range(1, len(words)):
                before, behind = " ".join(words[:at]), " ".join(words[at:])
                for gap in ("  ", "", "\t", "\n"):
                    self.refused(before + gap + behind)

    def test_empty_words(self):
        for line, _, _ in FORMS:
            words = line.split(" ")
            for at in range(len(words)):
                self.refused(" ".join(words[:at] + [""] + words[at + 1:]))
        for line in ("", " ", "  ", "\n"):
            self.refused(line)

    def test_numbers(self):
        for line, values, places in FORMS:
            words = line.split(" ")
            for at in places:
                for number in (0, 1, 10, 1000000001 // 10, MOST - 1, MOST):
                    changed = values[:at - 1] + [number] + values[at:]
                    self.assertEqual(parse_command(" ".join(words[:at] + [str(number)] + words[at + 1:])), (words[0], changed))
                for bad in BAD_NUMBERS:
                    self.refused(" ".join(words[:at] + [bad] + words[at + 1:]))

    def test_market_is_a_price_alone(self):
        for line, values, places in FORMS:
            words = line.split(" ")
            for at in places:
                changed = " ".join(words[:at] + ["market"] + words[at + 1:])
                if PRICES.get(words[0]) == at:
                    self.assertEqual(parse_command(changed), (words[0], values[:at - 1] + [None] + values[at:]))
                else:
                    self.refused(changed)

    def test_words_near_to_market(self):
        for word in ("Market", "MARKET", "markets", "marke", "none", "", "None", "-"):
            self.refused(f"order alder ABC buy {word} 20 rest 0")
            self.refused(f"stop alder ABC buy 100 {word} 20")

    def test_other_names_of_commands(self):
        for name in ("Deposit", "DEPOSIT", "deposits", "depos", "xdeposit", "", "market", "bought", "needed", "replay", "execute"):
            for rest in ("", " alder 5", " alder ABC 5"):
                self.refused(name + rest)

    def test_names_sides_and_kinds_are_any_words(self):
        self.assertEqual(parse_command("order X y both 1 2 some 3"), ("order", ["X", "y", "both", 1, 2, "some", 3]))
        self.assertEqual(parse_command("owe 5 market 7"), ("owe", ["5", "market", 7]))
        self.assertEqual(parse_command("deposit -1 5"), ("deposit", ["-1", 5]))
        self.assertEqual(parse_command("start settle"), ("start", ["settle"]))

    def test_two_lists(self):
        first = parse_command("deposit alder 5")
        first[1].append(6)
        self.assertEqual(parse_command("deposit alder 5"), ("deposit", ["alder", 5]))


class LinesTest(BourseCase):
    def check(self, session, *rows):
        """Each row has a line and the lines that it returns."""
        for line, expected in rows:
            self.assertEqual(session.execute(line), expected, line)

    def test_commands_without_lines(self):
        session = Session(PLAIN)
        self.check(
            session, ("deposit alder 5", []), ("withdraw alder 6", []), ("pledge alder 70", []), ("release alder 8", []),
            ("issue birch ABC 90", []), ("owe alder birch 10", []),
        )
        exchange = session.exchange
        self.assertEqual([exchange.cash.balance(name) for name in ("cash alder", "margin alder", "outside")], [98937, 62, -300749])
        self.assertEqual((exchange.units.balance("birch ABC"), exchange.debts), (90, [("alder", "birch", 10)]))

    def test_orders_in_a_call(self):
        session = Session(FREE)
        self.check(
            session, ("issue birch ABC 90", []), ("order alder ABC buy 102 30 rest 0", ["order 1 rests 30"]),
            ("order birch ABC sell market 20 now 0", ["order 2 rests 20"]), ("cancel alder ABC 1", ["cancelled 30"]),
            ("order cedar ABC buy 103 25 rest 0", ["order 3 rests 25"]), ("start ABC", ["price 100 fills 1"]),
            ("start XY", ["price 100 fills 0"]),
        )

    def test_a_call_with_own_trades(self):
        session = Session(FREE)
        self.check(
            session, ("issue alder ABC 90", []), ("order alder ABC buy 102 30 rest 0", ["order 1 rests 30"]),
            ("order alder ABC sell 102 10 rest 0", ["order 2 rests 10"]),
            ("order alder ABC sell 102 10 rest 0", ["order 3 rests 10"]), ("start ABC", ["price 102 fills 2"]),
        )

    def test_orders_in_the_book(self):
        session = Session(FREE)
        self.check(
            session, ("issue alder ABC 90", []), ("issue birch ABC 90", []), ("start ABC", ["price 100 fills 0"]),
            ("order alder ABC sell 101 30 rest 10", ["order 1 rests 30"]),
            ("order birch ABC sell 101 10 rest 0", ["order 2 rests 10"]),
            ("order alder ABC sell 102 7 rest 0", ["order 3 rests 7"]),
            ("order cedar ABC buy 101 25 rest 0",
             ["order 4 rests 0", "fill 1 alder 101 10", "fill 2 birch 101 10", "fill 1 alder 101 5"]),
            ("order alder ABC buy 102 4 rest 0", ["order 5 rests 4", "removed 1", "removed 3"]),
            ("order birch ABC sell 90 5 now 0", ["order 6 rests 0", "fill 5 alder 102 4"]),
            ("order cedar ABC buy market 3 all 0", ["order 7 rests 0"]),
        )

    def test_fills_stand_before_removed_orders(self):
        session = Session(FREE)
        self.check(
            session, ("issue alder ABC 90", []), ("issue birch ABC 90", []), ("start ABC", ["price 100 fills 0"]),
            ("order cedar ABC buy 99 5 rest 0", ["order 1 rests 5"]),
            ("order alder ABC buy 100 5 rest 0", ["order 2 rests 5"]),
            ("order cedar ABC buy 98 5 rest 0", ["order 3 rests 5"]),
            ("issue cedar ABC 9", []),
            ("order cedar ABC sell 97 9 rest 0", ["order 4 rests 4", "fill 2 alder 100 5", "removed 1", "removed 3"]),
        )

    def test_stop_orders(self):
        session = Session(FREE)
        self.check(
            session, ("issue alder ABC 90", []), ("start ABC", ["price 100 fills 0"]),
            ("order alder ABC sell 101 10 rest 0", ["order 1 rests 10"]),
            ("order alder ABC sell 103 10 rest 0", ["order 2 rests 10"]),
            ("stop birch ABC buy 101 102 4", ["order 3 rests 0"]), ("stop birch ABC buy 101 market 4", ["order 4 rests 0"]),
            ("order cedar ABC buy 101 12 rest 0",
             ["order 5 rests 2", "fill 1 alder 101 10", "order 3 rests 4", "order 4 rests 0", "fill 2 alder 103 4"]),
            ("stop cedar ABC buy 103 market 1", ["order 6 rests 0", "order 6 rests 0", "fill 2 alder 103 1"]),
            ("stop cedar ABC buy 200 market 8", ["order 7 rests 0"]), ("cancel cedar ABC 7", ["cancelled 8"]),
        )

    def test_a_settlement_without_losses(self):
        session = Session(FREE)
        self.check(
            session, ("issue alder ABC 90", []), ("start ABC", ["price 100 fills 0"]),
            ("order alder ABC sell 101 10 rest 0", ["order 1 rests 10"]),
            ("order birch ABC buy 101 10 rest 0", ["order 2 rests 0", "fill 1 alder 101 10"]), ("owe alder cedar 7", []),
            ("settle", ["paid alder 7 of 7", "paid birch 1010 of 1010", "paid cedar 0 of 0", "paid hall 1010 of 1010"]),
            ("settle", ["paid alder 0 of 0", "paid birch 0 of 0", "paid cedar 0 of 0", "paid hall 0 of 0"]),
        )

    def test_a_settlement_with_losses(self):
        text = "house a 34\nhouse b 20\nhouse c 10\ninstrument X 1 1 100 10\nfund a 30\nfund b 20\nfund c 10\nskin 7"
        session = Session(text)
        self.check(
            session, ("pledge a 4", []), ("issue b X 9", []), ("start X", ["price 10 fills 0"]),
            ("order b X sell 100 1 rest 0", ["order 1 rests 1"]),
            ("order a X buy 100 1 rest 0", ["order 2 rests 0", "fill 1 b 100 1"]), ("owe b c 90", []), ("owe c a 1", []),
            ("settle", [
                "paid a 1 of 100", "paid b 72 of 90", "paid c 1 of 1", "paid hall 72 of 100",
                "loss a 4 30 7 30 left 28", "fallen a", "fallen b",
            ]),
            ("dividend X 3", ["received a 0", "received b 24", "received c 0"]),
        )

    def test_dividend_and_split(self):
        session = Session(PLAIN)
        self.check(
            session, ("issue alder ABC 7", []), ("issue birch ABC 4", []),
            ("dividend ABC 30", ["received alder 210", "received birch 120", "received cedar 0"]),
            ("dividend XY 30", ["received alder 0", "received birch 0", "received cedar 0"]),
            ("split ABC 3 2", ["holds alder 10 500", "holds birch 6 0", "holds cedar 0 0"]),
        )

    def test_terms_without_houses(self):
        session = Session("instrument X 1 1 1 1")
        self.check(
            session, ("settle", ["paid hall 0 of 0"]), ("dividend X 3", []), ("split X 3 2", []), ("start X", ["price 1 fills 0"]),
        )

    def test_the_terms_of_a_session(self):
        self.assertEqual(self.raises(InvalidLine, Session, "house a 5\nhouse").line, 2)
        self.raises(InvalidAmount, Session, "house a 1000000000\nskin 1")
        self.raises(Overdrawn, Session, "house a 5\nfund a 6")
        self.assertEqual(dump(Session(PLAIN).exchange), dump(exchange_of()))
        self.assertIs(type(Session("").exchange), Exchange)
        self.assertEqual(Session("").tape(), "")


class TapeTest(BourseCase):
    def refused(self, session, error, line):
        before = (state(session.exchange), dump(session), session.tape())
        self.raises(error, session.execute, line)
        self.assertEqual((state(session.exchange), dump(session), session.tape()), before)

    def written(self, lines):
        tape = Tape()
        for line in lines:
            tape.append(line)
        return tape.whole()

    def test_each_command_is_written_word_for_word(self):
        lines = [
            "deposit alder 5", "withdraw alder 5", "pledge alder 5000", "pledge birch 5000", "release alder 0", "issue alder ABC 50",
            "owe birch alder 1", "order alder ABC sell 1000 20 rest 0", "order birch ABC buy market 10 now 0", "start ABC",
            "stop birch ABC buy 1005 market 10", "cancel alder ABC 1", "settle", "dividend ABC 3", "split ABC 3 2", "settle",
        ]
        session = Session(PLAIN)
        for number, line in enumerate(lines, start=1):
            session.execute(line)
            self.assertEqual(session.tape(), self.written(lines[:number]))
        self.assertEqual(read_tape(session.tape()), (lines, len(session.tape())))

    def test_a_command_that_raises_an_error_is_not_written_and_changes_nothing(self):
        session = Session(PLAIN)
        for line in ("owe cedar alder 51", "settle", "pledge alder 1000", "issue alder ABC 50", "start XY", "issue birch XY 9",
                     "order alder XY buy 100 1 rest 0"):
            session.execute(line)
        for error, line in (
            (InvalidCommand, ""), (InvalidCommand, "settle "), (InvalidCommand, "deposit alder -5"), (UnknownName, "deposit dogwood 5"),
            (HouseFallen, "deposit cedar 5"), (InvalidAmount, "deposit alder 999999999"), (Overdrawn, "withdraw alder 500000"),
            (Overdrawn, "pledge alder 500000"), (MarginShort, "release alder 1000"), (UnknownName, "issue alder ZZ 5"),
            (InvalidAmount, "owe alder birch 0"), (InvalidAmount, "owe alder alder 5"), (InvalidAmount, "owe alder birch 10000"),
            (WrongPhase, "stop alder ABC buy 1000 1000 10"), (InvalidOrder, "order alder ABC buy 1000 10 rest 10"),
            (InvalidOrder, "order alder ABC both 1000 10 rest 0"), (InvalidOrder, "order alder ABC buy 1000 10 some 0"),
            (InvalidOrder, "order alder ABC buy market 10 rest 0"), (InvalidOrder, "order alder XY buy 1000000000 1 rest 0"),
            (OutOfBand, "order alder ABC buy 1500 10 rest 0"), (Overdrawn, "order alder ABC sell 1000 60 rest 0"),
            (MarginShort, "order alder ABC buy 1000 100 rest 0"), (UnknownOrder, "cancel alder ABC 1"),
            (NotOwner, "cancel birch XY 1"), (WrongPhase, "start XY"), (UnknownName, "start ZZ"), (UnknownName, "dividend ZZ 5"),
            (InvalidAmount, "dividend ABC 1000000000"), (InvalidAmount, "split ABC 0 1"), (InvalidAmount, "split ABC 1 0"),
            (UnknownName, "split ZZ 1 1"), (InvalidCommand, "deposit alder 5\n"), (InvalidCommand, "start ABC\n"),
        ):
            self.refused(session, error, line)
        session.execute("pledge birch 500")
        session.execute("order birch XY sell 100 1 rest 0")
        for line in ("dividend XY 1", "split XY 1 1", "dividend ABC 0"):
            self.refused(session, WrongPhase, line)


def drawn_line(draw, houses, symbols):
    """A line that is often a command without an error."""
    house, other = draw.choice(houses), draw.choice(houses)
    symbol = draw.choice(symbols)
    side = draw.choice(["buy", "sell"])
    price = draw.choice(["market", str(draw.randint(8, 12)), str(draw.randint(8, 12))])
    kind = "rest" if price != "market" and draw.random() < 0.8 else draw.choice(["now", "now", "all"])
    shown = draw.choice([0, 0, 1, 2])
    quantity = draw.randint(1, 6)
    order = f"order {house} {symbol} {side} {price} {quantity} {kind} {shown}"
    return draw.choice([
        order, order, order, order, order, f"stop {house} {symbol} {side} {draw.randint(8, 12)} {price} {quantity}",
        f"cancel {house} {symbol} {draw.randint(1, 12)}", f"start {symbol}", f"start {symbol}",
        f"deposit {house} {draw.randint(0, 50)}", f"withdraw {house} {draw.randint(0, 30)}",
        f"pledge {house} {draw.randint(0, 80)}", f"release {house} {draw.randint(0, 40)}",
        f"issue {house} {symbol} {draw.randint(0, 20)}", f"owe {house} {other} {draw.randint(0, 60)}",
        draw.choice(["settle", f"dividend {symbol} {draw.randint(0, 3)}", f"split {symbol} {draw.randint(0, 3)} {draw.randint(1, 3)}"]),
    ])


TERMS = "\n".join([
    "house a 200", "house b 150", "house c 100", "instrument X 1 1 5 10", "instrument YZ 1 1 5 10", "scenario -2 1", "scenario 2 2",
    "fund a 30", "fund b 20", "fee 20000", "skin 7",
])


def drawn_session(seed, length):
    """A session that has tried this many commands; the lines that it refused count too."""
    draw = random.Random(seed)
    session = Session(TERMS)
    for _ in range(length):
        line = drawn_line(draw, "abc", ["X", "YZ"])
        try:
            session.execute(line)
        except ValueError:
            pass
    return session


class ReplayTest(BourseCase):
    def alike(self, first, second, seed):
        """Both sessions answer the next commands alike."""
        draw = random.Random(seed)
        for _ in range(25):
            line = drawn_line(draw, "abc", ["X", "YZ"])
            answers = []
            for session in (first, second):
                try:
                    answers.append(session.execute(line))
                except ValueError as wrong:
                    answers.append(type(wrong))
            self.assertEqual(answers[0], answers[1], line)
            self.assertEqual(state(first.exchange), state(second.exchange))
            self.assertEqual(first.tape(), second.tape())

    def test_the_empty_tape(self):
        session = replay(TERMS, "")
        self.assertIs(type(session), Session)
        self.assertEqual((session.tape(), state(session.exchange)), ("", state(Session(TERMS).exchange)))

    def test_a_replayed_session_has_the_same_state(self):
        for seed in range(12):
            session = drawn_session(seed, 80)
            again = replay(TERMS, session.tape())
            self.assertEqual(state(again.exchange), state(session.exchange))
            self.assertEqual(dump(again), dump(session))
            self.assertEqual(again.tape(), session.tape())
            self.alike(session, again, seed + 100)

    def test_a_tape_that_is_cut_at_any_place(self):
        tape = drawn_session(1, 50).tape()
        states = {}
        for cut in range(len(tape) + 1):
            whole = tape[:cut].count("\n")
            again = replay(TERMS, tape[:cut])
            if whole not in states:
                session = Session(TERMS)
                for text in read_tape(tape)[0][:whole]:
                    session.execute(text)
                states[whole] = (state(session.exchange), session.tape())
            self.assertEqual((state(again.exchange), again.tape()), states[whole])

    def test_other_signs_behind_a_tape(self):
        session = drawn_session(2, 60)
        for more in ("x", "\n", "1 settle 1234\n", "999", "\x00\n", session.tape()):
            again = replay(TERMS, session.tape() + more)
            self.assertEqual((state(again.exchange), again.tape()), (state(session.exchange), session.tape()))

    def test_one_character_replaced(self):
        tape = drawn_session(3, 30).tape()
        texts = read_tape(tape)[0]
        for at in range(0, len(tape), 3):
            changed = tape[:at] + ("x" if tape[at] != "x" else "y") + tape[at + 1:]
            line = tape[:at].count("\n")
            self.assertEqual(read_tape(replay(TERMS, changed).tape())[0], texts[:line])

    def test_a_command_that_raises_an_error(self):
        good = ["deposit a 5", "start X"]
        for bad in ("deposit d 5", "start X", "nothing", "settle ", " settle", "withdraw a 1000", "order a X buy 10 1 rest 9",
                    "release a 1", "owe a a 5", "dividend Z 1", "cancel a X 1", "order a X sell 10 1 rest 0"):
            for texts in (good + [bad], good + [bad, "settle"], ["start X", bad]):
                tape = Tape()
                for text in texts:
                    tape.append(text)
                self.raises(BrokenTape, replay, TERMS, tape.whole())
                cut = tape.whole().index(f"\n{texts.index(bad, 1) + 1} ") + 1
                self.assertEqual(replay(TERMS, tape.whole()[:cut]).tape(), tape.whole()[:cut])

    def test_a_command_that_raises_an_error_behind_the_good_beginning(self):
        tape = Tape()
        tape.append("deposit a 5")
        good = tape.whole()
        tape.append("nothing")
        self.assertEqual(replay(TERMS, tape.whole()[:-1]).tape(), good)
        self.raises(BrokenTape, replay, TERMS, tape.whole())

    def test_wrong_terms(self):
        self.raises(InvalidLine, replay, "house", "")
        self.raises(InvalidAmount, replay, "house a 1000000000\nskin 1", "")
        self.raises(Overdrawn, replay, "house a 5\nfund a 6", "")


def session_of(*lines, terms=FREE):
    session = Session(terms)
    for line in lines:
        session.execute(line)
    return session


class StateTest(BourseCase):
    def check_plain(self, value):
        self.assertIn(type(value), (tuple, list, str, int, type(None)))
        if isinstance(value, (tuple, list)):
            for part in value:
                self.check_plain(part)

    def differ(self, first, second):
        self.assertNotEqual(state(session_of(*first).exchange), state(session_of(*second).exchange))
        for lines in (first, second):
            self.assertEqual(state(session_of(*lines).exchange), state(session_of(*lines).exchange))

    def test_plain_values(self):
        self.check_plain(state(exchange_of("")))
        for seed in range(5):
            self.check_plain(state(drawn_session(seed, 60).exchange))

    def test_what_makes_states_differ(self):
        start = ("start ABC", "issue alder ABC 50", "issue birch ABC 50")
        for more in (
            ("deposit alder 5",), ("pledge alder 5",), ("issue alder ABC 5",), ("issue cedar XY 5",), ("start XY",),
            ("owe alder birch 5",), ("order alder ABC buy 90 5 rest 0",), ("order alder ABC buy 90 5 rest 2",),
            ("order alder XY buy 90 5 rest 0",), ("order alder XY buy market 5 now 0",), ("stop alder ABC buy 110 market 5",),
        ):
            self.differ(start, start + more)

    def test_details_of_orders(self):
        for start, good, others in (
            ((), "order alder XY buy 90 5 rest 0", (
                "order birch XY buy 90 5 rest 0", "order alder XY buy 91 5 rest 0", "order alder XY buy 90 6 rest 0",
                "order alder XY buy market 5 now 0", "order alder ABC buy 90 5 rest 0")),
            (("start XY",), "order alder XY buy 90 5 rest 0", (
                "order birch XY buy 90 5 rest 0", "order alder XY buy 91 5 rest 0", "order alder XY buy 90 6 rest 0",
                "order alder XY buy 90 5 rest 3", "stop alder XY buy 110 90 5")),
            (("start XY",), "stop alder XY buy 110 90 5", (
                "stop birch XY buy 110 90 5", "stop alder XY buy 111 90 5", "stop alder XY buy 110 91 5",
                "stop alder XY buy 110 90 6", "stop alder XY buy 110 market 5")),
            (("issue alder XY 9",), "order alder XY sell 90 5 rest 0", ("order alder XY buy 90 5 rest 0",)),
            (("issue alder XY 9", "start XY"), "order alder XY sell 90 5 rest 0", ("order alder XY buy 90 5 rest 0",)),
            (("issue alder XY 9", "start XY"), "stop alder XY sell 90 80 5", ("stop alder XY buy 90 80 5",)),
        ):
            for other in others:
                self.differ(start + (good,), start + (other,))

    def test_an_order_that_may_show_more(self):
        # Both orders have 8 units left of which 3 are visible, but their next visible parts differ.
        start = ("start ABC", "issue alder ABC 50")
        first = ("order alder ABC sell 120 1 rest 0", "cancel alder ABC 1", "order alder ABC sell 100 10 rest 5")
        second = ("order alder ABC sell 100 2 rest 0", "order alder ABC sell 100 8 rest 3")
        end = ("order birch ABC buy 100 2 rest 0",)
        books = [session_of(*start, *lines, *end).exchange.market("ABC").book for lines in (first, second)]
        self.assertEqual(books[0].orders("sell"), books[1].orders("sell"))
        self.differ(start + first + end, start + second + end)

    def test_the_priority_of_orders(self):
        first, second = "order alder XY buy 90 5 rest 0", "order alder XY buy 90 7 rest 0"
        self.differ(("start XY", first, second), ("start XY", second, first))

    def test_trades_and_prices(self):
        start = ("start ABC", "issue alder ABC 50")
        trades = [start + (f"order alder ABC sell {price} 5 rest 0", f"order {buyer} ABC buy {price} {units} rest 0", "cancel alder ABC 1")
                  for price, buyer, units in ((100, "birch", 3), (101, "birch", 3), (100, "cedar", 3), (100, "birch", 4))]
        self.differ(trades[0], start + ("order alder ABC sell 100 5 rest 0", "cancel alder ABC 1"))
        for other in trades[1:]:
            self.differ(trades[0], other)

    def test_the_last_price_and_the_reference_price(self):
        own = ("issue alder ABC 50", "order alder ABC buy 105 5 rest 0", "order alder ABC sell 105 5 rest 0", "start ABC")
        self.differ(own, ("issue alder ABC 50", "start ABC"))
        same = tuple(line.replace("105", "100") for line in own)
        self.differ(same, ("issue alder ABC 50", "start ABC"))
        first, second = (session_of("split ABC 1 1").exchange for _ in range(2))
        second.market("ABC").reference = 101
        self.assertNotEqual(state(first), state(second))

    def test_debts(self):
        self.differ(("owe alder birch 5",), ("owe birch alder 5",))
        self.differ(("owe alder birch 5",), ("owe alder birch 6",))
        self.differ(("owe alder birch 5", "owe alder birch 6"), ("owe alder birch 6", "owe alder birch 5"))
        self.differ(("owe alder birch 5", "owe alder birch 6"), ("owe alder birch 11",))

    def test_fallen_houses(self):
        first, second = (Session("house a 5\nhouse b 0\nhouse c 0") for _ in range(2))
        first.execute("owe b c 1")
        for session in (first, second):
            session.execute("settle")
        self.assertEqual(first.exchange.cash.entries()[-1:], second.exchange.cash.entries()[-1:])
        self.assertNotEqual(state(first.exchange), state(second.exchange))

    def test_fees_and_their_millionths(self):
        lines = ("issue alder ABC 50", "start ABC", "order alder ABC sell 100 5 rest 0", "order birch ABC buy 100 5 rest 0")
        states = [state(session_of(*lines, terms=f"{FREE}\nfee {rate}").exchange) for rate in (0, 1, 2, 2000, 4000)]
        for at, first in enumerate(states):
            self.assertTrue(all(first != second for second in states[at + 1:]))

    def test_changing_a_state_changes_no_exchange(self):
        exchange = session_of("start ABC", "order alder ABC buy 90 5 rest 0", "owe alder birch 5", "order alder XY buy 1 1 rest 0").exchange
        before = dump(exchange)

        def spoil(value):
            if isinstance(value, (tuple, list)):
                for part in value:
                    spoil(part)
            if isinstance(value, list):
                value.append("x")

        spoil(state(exchange))
        self.assertEqual(dump(exchange), before)

    def test_an_exchange_by_words_and_one_by_methods(self):
        session = session_of("deposit alder 5", "issue alder ABC 5", "start ABC", "order alder ABC sell 100 5 rest 2", "owe alder birch 3")
        exchange = exchange_of(FREE)
        exchange.deposit("alder", 5)
        exchange.issue("alder", "ABC", 5)
        exchange.start("ABC")
        exchange.order("alder", "ABC", "sell", 100, 5, shown=2)
        exchange.owe("alder", "birch", 3)
        self.assertEqual(state(session.exchange), state(exchange))
        settle(exchange)
        session.execute("settle")
        self.assertEqual(state(session.exchange), state(exchange))


if __name__ == "__main__":
    unittest.main()
