"""Points 10.1 to 10.4: the lines of a tape, their check figures, and the good beginning."""

import random
import unittest

from fairbourse.errors import BrokenTape
from fairbourse.tape import Tape, check_of, read_tape, write_line
from support import BourseCase

ALL_SIGNS = "".join(chr(code) for code in range(32, 127))
TEXTS = [
    "a", " ", "~", "settle", ALL_SIGNS, "1", "12", "2 b", "1 a 0000", "9 a 1234", "0007", " 0007", "0007 ", "  ", " a", "a ",
    "deposit alder 5 1234", "a" * 200,
]
BAD_TEXTS = ["", "\n", "a\n", "\na", "a\nb", "\t", "a\tb", "\r", "a\r", "\x1f", "\x7f", "a\x7f", "\x80", "\xa0", "\xe9",
             "a\u2028", "\u0660", "\x00", "a" + chr(97 + 9973)]


def check_by_the_words(text):
    """Point 10.2, word by word: one whole number, and the remainder at the end."""
    value = 7
    for sign in text:
        value = value * 31 + ord(sign)
    return str(10000 + value % 9973)[1:]


def line_by_the_words(number, text):
    return str(number) + " " + text + " " + check_by_the_words(str(number) + " " + text) + "\n"


def tape_of(texts):
    return "".join(line_by_the_words(number, text) for number, text in enumerate(texts, start=1))


def good_beginning(tape):
    """Point 10.3, by a search for the texts that stand between a number and check figures."""
    texts = []
    length = 0
    for line in tape.split("\n")[:-1]:
        number, _, rest = line.partition(" ")
        text, _, figures = rest.rpartition(" ")
        good = text != "" and all(sign in ALL_SIGNS for sign in text)
        if number != str(len(texts) + 1) or not good or figures != check_by_the_words(number + " " + text):
            break
        texts.append(text)
        length += len(line) + 1
    return texts, length


class CheckTest(BourseCase):
    def test_the_value_starts_at_7(self):
        self.assertEqual(check_of(""), "0007")

    def test_each_character_is_added_behind_a_multiplication(self):
        self.assertEqual(check_of("\x00"), "0217")
        self.assertEqual(check_of(" "), "0249")
        self.assertEqual(check_of("a"), "0314")
        self.assertEqual(check_of("ab"), "9832")
        self.assertEqual(check_of("abc"), "5701")

    def test_leading_zeros_and_the_greatest_figures(self):
        figures = {check_of("1 " + first + second) for first in ALL_SIGNS for second in ALL_SIGNS}
        figures |= {check_of(str(number)) for number in range(30000)}
        self.assertTrue(all(len(row) == 4 and row.isdigit() for row in figures))
        self.assertIn("0000", figures)
        self.assertIn("9972", figures)
        self.assertEqual(max(figures), "9972")

    def test_as_the_words_say(self):
        draw = random.Random(1)
        for _ in range(200):
            text = "".join(draw.choice(ALL_SIGNS) for _ in range(draw.randint(1, 60)))
            self.assertEqual(check_of(text), check_by_the_words(text))


class WriteTest(BourseCase):
    def test_a_line(self):
        self.assertEqual(write_line(1, "settle"), "1 settle " + check_by_the_words("1 settle") + "\n")
        self.assertEqual(write_line(12, "a"), "12 a " + check_by_the_words("12 a") + "\n")

    def test_figures_worked_out_by_hand(self):
        # "1 a": (7 * 31 + 49) = 266; 266 * 31 + 32 = 8278; 8278 * 31 + 97 = 256715, and 256715 - 25 * 9973 = 7390.
        self.assertEqual(write_line(1, "a"), "1 a 7390\n")

    def test_every_good_text(self):
        for text in TEXTS + list(ALL_SIGNS):
            for number in (1, 2, 10, 10 ** 9):
                self.assertEqual(write_line(number, text), line_by_the_words(number, text))

    def test_bad_texts(self):
        for text in BAD_TEXTS:
            self.raises(BrokenTape, write_line, 1, text)


class ReadTest(BourseCase):
    def test_the_empty_tape(self):
        self.assertEqual(read_tape(""), ([], 0))

    def test_whole_tapes(self):
        for text in TEXTS:
            tape = tape_of([text])
            self.assertEqual(read_tape(tape), ([text], len(tape)))
        tape = tape_of(TEXTS)
        self.assertEqual(read_tape(tape), (TEXTS, len(tape)))
        self.assertEqual(good_beginning(tape), (TEXTS, len(tape)))

    def test_a_tape_that_is_cut_at_every_place(self):
        texts = TEXTS[:4] + TEXTS[5:12]
        tape = tape_of(texts)
        for cut in range(len(tape) + 1):
            whole = tape[:cut].count("\n")
            self.assertEqual(read_tape(tape[:cut]), (texts[:whole], len(tape_of(texts[:whole]))))

    def test_one_character_replaced_at_every_place(self):
        texts = ["deposit alder 5", "settle", "2 b 0007", " ", "owe a b 3", "x", "y", "z", "start A", "a", "b c"]
        tape = tape_of(texts)
        signs = ["a", "Z", "0", "1", "9", " ", "~", "\t", "\r", "\x00", "\x7f", "\xe9", "\u0661"]
        for at, old in enumerate(tape):
            line = tape[:at].count("\n")
            before = (texts[:line], len(tape_of(texts[:line])))
            # The last of the others gives the same check figures, but it is no character of a text.
            for sign in signs + [chr(ord(old) + 1), chr(ord(old) + 9973)]:
                if sign not in (old, "\n"):
                    self.assertEqual(read_tape(tape[:at] + sign + tape[at + 1:]), before, (at, sign))

    def test_every_sign_in_the_place_of_another_one(self):
        tape = tape_of(["ab c"])
        for at, old in enumerate(tape):
            for sign in ALL_SIGNS:
                if sign != old:
                    self.assertEqual(read_tape(tape[:at] + sign + tape[at + 1:]), ([], 0))

    def test_a_newline_in_the_place_of_a_sign(self):
        texts = ["ab", "cd", "ef"]
        tape = tape_of(texts)
        for at in range(len(tape)):
            line = tape[:at].count("\n")
            if tape[at] != "\n":
                self.assertEqual(read_tape(tape[:at] + "\n" + tape[at + 1:])[0], texts[:line])

    def test_lines_out_of_order(self):
        first, second, third = (line_by_the_words(number, "a") for number in (1, 2, 3))
        self.assertEqual(read_tape(second + first), ([], 0))
        self.assertEqual(read_tape(first + third + second), (["a"], len(first)))
        self.assertEqual(read_tape(first + first + second), (["a"], len(first)))
        self.assertEqual(read_tape(first + second + second), (["a", "a"], len(first + second)))
        self.assertEqual(read_tape(line_by_the_words(0, "a") + first), ([], 0))

    def test_numbers_in_another_form(self):
        for number in ("01", "+1", " 1", "1.", "", "-1", "1 ", "one"):
            body = number + " a"
            self.assertEqual(read_tape(body + " " + check_by_the_words(body) + "\n")[0], [" a"] if number == "1 " else [])

    def test_good_lines_behind_a_broken_one(self):
        lines = [line_by_the_words(number, "a") for number in range(1, 6)]
        lines[2] = lines[2].replace("a", "b")
        self.assertEqual(read_tape("".join(lines)), (["a", "a"], len(lines[0]) * 2))

    def test_an_empty_line(self):
        first, second = line_by_the_words(1, "a"), line_by_the_words(2, "a")
        self.assertEqual(read_tape("\n" + first), ([], 0))
        self.assertEqual(read_tape(first + "\n" + second), (["a"], len(first)))

    def test_other_signs_behind_the_last_line(self):
        tape = tape_of(["a", "b"])
        for more in ("x", "3", "3 ", "3 c", "3 c 1234", "\n", "3 c 1234\n", "\n3 c", line_by_the_words(3, "c")[:-1], "\x00"):
            self.assertEqual(read_tape(tape + more), (["a", "b"], len(tape)))

    def test_lines_with_an_empty_or_a_bad_text(self):
        for text in ("", "\t", "\xe9", "a\r", "\x7f", "\x1f"):
            self.assertEqual(read_tape(line_by_the_words(1, text) + line_by_the_words(2, "a")), ([], 0))
        body = "1"
        self.assertEqual(read_tape(body + " " + check_by_the_words(body) + "\n"), ([], 0))

    def test_line_ends_of_another_kind(self):
        first, second = line_by_the_words(1, "a"), line_by_the_words(2, "b")
        self.assertEqual(read_tape(first[:-1] + "\r\n" + second), ([], 0))
        self.assertEqual(read_tape(first[:-1] + "\r" + second), ([], 0))

    def test_figures_in_another_form(self):
        body = "1 a"
        figures = check_by_the_words(body)
        for other in (figures[1:], "0" + figures, figures + " ", figures + "0", "x", "", "".join(chr(ord(s) + 0x630) for s in figures)):
            self.assertEqual(read_tape(body + " " + other + "\n"), ([], 0))
        self.assertEqual(read_tape(body + figures + "\n"), ([], 0))
        self.assertEqual(read_tape(body + "  " + figures + "\n"), ([], 0))

    def test_drawn_tapes(self):
        draw = random.Random(2)
        for _ in range(300):
            texts = ["".join(draw.choice(" 01a~") for _ in range(draw.randint(1, 6))) for _ in range(draw.randint(0, 12))]
            tape = tape_of(texts)
            self.assertEqual(read_tape(tape), (texts, len(tape)))
            for _ in range(3):
                start, end = sorted(draw.randint(0, len(tape)) for _ in range(2))
                more = draw.choice(["", "\n", "a", " ", "1 ", "\n1 a"])
                changed = tape[:start] + more + tape[end:]
                self.assertEqual(read_tape(changed), good_beginning(changed))


class TapeTest(BourseCase):
    def test_an_empty_tape(self):
        tape = Tape()
        self.assertEqual((tape.texts(), tape.whole()), ([], ""))

    def test_lines_are_appended(self):
        tape = Tape()
        for number, text in enumerate(TEXTS, start=1):
            self.assertEqual(tape.append(text), number)
            self.assertEqual(tape.texts(), TEXTS[:number])
            self.assertEqual(tape.whole(), tape_of(TEXTS[:number]))
            self.assertEqual(read_tape(tape.whole()), (TEXTS[:number], len(tape.whole())))

    def test_more_than_nine_lines(self):
        tape = Tape()
        for number in range(1, 121):
            self.assertEqual(tape.append("a"), number)
        self.assertEqual(tape.whole(), tape_of(["a"] * 120))
        self.assertEqual(read_tape(tape.whole()), (["a"] * 120, len(tape.whole())))

    def test_bad_texts_are_not_written(self):
        tape = Tape()
        for texts in ([], ["a"], ["a", "b"]):
            for text in BAD_TEXTS:
                self.raises(BrokenTape, tape.append, text)
                self.assertEqual((tape.texts(), tape.whole()), (texts, tape_of(texts)))
            self.assertEqual(tape.append("ab"[len(texts) % 2]), len(texts) + 1)

    def test_two_tapes(self):
        first, second = Tape(), Tape()
        first.append("a")
        self.assertEqual((second.texts(), second.append("b"), first.texts()), ([], 1, ["a"]))

    def test_changing_a_list_changes_no_tape(self):
        tape = Tape()
        tape.append("a")
        texts = tape.texts()
        texts.append("b")
        texts[0] = "c"
        read = read_tape(tape.whole())[0]
        read.clear()
        self.assertEqual((tape.texts(), tape.whole()), (["a"], tape_of(["a"])))


if __name__ == "__main__":
    unittest.main()
