"""Points 2.1 to 2.6."""

import unittest

from fairbourse.errors import InvalidLine
from fairbourse.terms import Terms, format_terms, parse_terms
from support import BourseCase

FULL = """# the terms of a small exchange
house birch 500000
house alder 1000000000

instrument OAK 5 10 100 1000
instrument ELM 1 1 0 1
scenario -20 30
scenario 0 -1000000
fund birch 2000
fund alder 0
skin 70
fee 250
"""

# A line with one number left out, the number that stands above it, and the bounds of the number.
NUMBERS = [
    ("", "house a {}", 0, 1000000000),
    ("", "instrument A {} 1 0 1000000", 1, 10000),
    ("", "instrument A 1 {} 0 1", 1, 10000),
    ("", "instrument A 1 1 {} 1", 0, 1000000),
    ("", "instrument A 1 1 0 {}", 1, 1000000),
    ("instrument A 1 1 0 1\n", "scenario {}", -1000000, 1000000),
    ("house a 1\n", "fund a {}", 0, 1000000000),
    ("", "fee {}", 0, 1000000),
    ("", "skin {}", 0, 1000000000),
]
BAD_NUMBERS = [
    "+1", "01", "00", "-0", "-01", "--1", "1.0", "1.", "a", "1a", "a1", "0x1", "1_0", "1e1", "-", "", "\t1", "1\t", "1\r",
    "\u0661", "\u00b2", "\uff11", "\u22121", "None", "9" * 6000, "-" + "9" * 6000, "0" * 30,
]


def fields(terms):
    return (terms.houses, terms.instruments, terms.scenarios, terms.fund, terms.fee, terms.skin)


def house_names(many):
    return ["abcdefghijklmn"[k] for k in range(many)]


class TermsCase(BourseCase):
    def invalid(self, text, line):
        """The text is invalid, and this is the number of its first invalid line."""
        with self.subTest(text[:80]):
            self.assertEqual(self.raises(InvalidLine, parse_terms, text).line, line)


class ParseTest(TermsCase):
    def test_all_lines(self):
        terms = parse_terms(FULL)
        self.assertIs(type(terms), Terms)
        self.assertEqual(terms.houses, [("alder", 1000000000), ("birch", 500000)])
        self.assertEqual(terms.instruments, [("ELM", 1, 1, 0, 1), ("OAK", 5, 10, 100, 1000)])
        self.assertEqual(terms.scenarios, [[-20, 30], [0, -1000000]])
        self.assertEqual(terms.fund, [("alder", 0), ("birch", 2000)])
        self.assertEqual(terms.fee, 250)
        self.assertEqual(terms.skin, 70)

    def test_the_empty_text(self):
        for text in ("", "\n", "\n\n", "#", "# fee 3\n#skin 4"):
            self.assertEqual(fields(parse_terms(text)), ([], [], [], [], 0, 0))
        self.assertEqual(fields(Terms()), ([], [], [], [], 0, 0))

    def test_the_last_newline_may_be_missing(self):
        self.assertEqual(parse_terms("fee 3").fee, 3)
        self.assertEqual(parse_terms("fee 3\n").fee, 3)

    def test_lines_without_effect_are_counted(self):
        self.invalid("\n#\n\nwrong", 4)
        self.invalid("\n\n\n wrong", 4)
        self.invalid("# wrong\nhouse a 1\nwrong\n", 3)
        self.invalid("wrong", 1)

    def test_the_first_invalid_line_counts(self):
        self.invalid("house a 1\nwrong\nhouse a 1\n", 2)
        self.invalid("house a 1\nhouse a 1\nwrong\n", 2)

    def test_only_a_line_that_begins_with_the_sign_is_a_comment(self):
        self.assertEqual(parse_terms("#house  a\n#\n##\n#  ").houses, [])
        self.invalid(" # a", 1)
        self.invalid("fee 3 # a", 1)
        self.invalid("fee 3#", 1)

    def test_empty_words(self):
        for line in ("house  a 1", "house a  1", " house a 1", "house a 1 ", " ", "  ", "fee 3 ", " fee 3", "fee  3"):
            self.invalid(line, 1)
        self.invalid("instrument A 1 1 0 1\nscenario 1 \n", 2)
        self.invalid("instrument A 1 1 0 1\nscenario  1\n", 2)

    def test_only_newlines_separate_lines(self):
        for sign in ("\r", "\r\n", "\x0b", "\x0c", "\x1c", "\x85", "\u2028"):
            self.invalid("fee 3" + sign + "skin 4\n", 1)
            self.assertEqual(parse_terms("#" + sign.replace("\n", "") + "fee 3\n").fee, 0)

    def test_only_spaces_separate_words(self):
        for sign in ("\t", "\u00a0", "\x0c", "\u2003"):
            self.invalid("fee" + sign + "3", 1)
            self.invalid("house a" + sign + "3", 1)

    def test_fields_of_different_terms_are_different_lists(self):
        one, other = Terms(), Terms()
        for left, right in zip(fields(one)[:4], fields(other)[:4]):
            left.append(1)
            self.assertEqual(right, [])
        first, second = parse_terms(FULL), parse_terms(FULL)
        first.scenarios[0].append(1)
        first.houses.append(("cedar", 1))
        self.assertEqual(second.scenarios[0], [-20, 30])
        self.assertEqual(len(second.houses), 2)


class NumbersTest(TermsCase):
    def test_both_ends_and_one_beyond(self):
        for above, line, least, most in NUMBERS:
            number = above.count("\n") + 1
            for good in (least, most):
                parse_terms(above + line.format(good))
            self.invalid(above + line.format(least - 1), number)
            self.invalid(above + line.format(most + 1), number)

    def test_the_values_are_kept(self):
        self.assertEqual(parse_terms("house a 0").houses, [("a", 0)])
        self.assertEqual(parse_terms("house a 1000000000").houses, [("a", 10 ** 9)])
        self.assertEqual(parse_terms("fee 1000000").fee, 10 ** 6)
        self.assertEqual(parse_terms("skin 1000000000").skin, 10 ** 9)
        terms = parse_terms("instrument A 10000 10000 1000000 1000000\nscenario -1000000\nscenario 1000000\nscenario 0")
        self.assertEqual(terms.instruments, [("A", 10 ** 4, 10 ** 4, 10 ** 6, 10 ** 6)])
        self.assertEqual(terms.scenarios, [[-(10 ** 6)], [10 ** 6], [0]])

    def test_texts_that_are_no_numbers(self):
        for above, line, _, _ in NUMBERS:
            for text in BAD_NUMBERS:
                self.invalid(above + line.format(text), above.count("\n") + 1)

    def test_the_reference_is_a_multiple_of_the_tick(self):
        self.assertEqual(parse_terms("instrument A 7 1 0 14").instruments, [("A", 7, 1, 0, 14)])
        self.assertEqual(parse_terms("instrument A 7 1 0 7").instruments, [("A", 7, 1, 0, 7)])
        for reference in ("1", "6", "8", "13", "15"):
            self.invalid("instrument A 7 1 0 " + reference, 1)


class NamesTest(TermsCase):
    def test_names_of_houses(self):
        for name in ("a", "z", "abcdefghijkl", "mnopqrstuvwx", "house", "fee"):
            self.assertEqual(parse_terms("house " + name + " 1").houses, [(name, 1)])
        for name in ("abcdefghijklm", "A", "aB", "a1", "1", "a-b", "a_b", "\u00e9", "\u00df", "\u0430", "a\t", "{", "`"):
            self.invalid("house " + name + " 1", 1)
        self.invalid("house  1", 1)

    def test_names_of_instruments(self):
        for name in ("A", "Z", "ABCDEF", "UVWXYZ"):
            self.assertEqual(parse_terms("instrument " + name + " 1 1 0 1").instruments, [(name, 1, 1, 0, 1)])
        for name in ("ABCDEFG", "a", "Ab", "A1", "1", "A-B", "\u00c9", "\u0391", "A\t", "[", "@"):
            self.invalid("instrument " + name + " 1 1 0 1", 1)
        self.invalid("instrument  1 1 0 1", 1)


class LinesTest(TermsCase):
    def test_first_words(self):
        for line in ("wrong", "House a 1", "FEE 3", "fees 3", "houses", "1", "a 1", "scenarios 1", "-"):
            self.invalid(line, 1)

    def test_too_few_words(self):
        for line in ("house", "house a", "instrument", "instrument A 1 1 0", "scenario", "fund", "fee", "skin"):
            self.invalid(line, 1)
        self.invalid("house a 1\nfund a", 2)
        self.invalid("instrument A 1 1 0 1\nscenario", 2)

    def test_too_many_words(self):
        for line in ("house a 1 1", "instrument A 1 1 0 1 1", "fee 3 3", "skin 3 3"):
            self.invalid(line, 1)
        self.invalid("house a 1\nfund a 1 1", 2)
        self.invalid("instrument A 1 1 0 1\nscenario 1 1", 2)

    def test_a_name_that_is_given_already(self):
        self.invalid("house a 1\nhouse b 1\nhouse a 2", 3)
        self.invalid("instrument A 1 1 0 1\ninstrument B 1 1 0 1\ninstrument A 2 1 0 2", 3)

    def test_a_house_and_an_instrument_may_have_the_same_letters(self):
        terms = parse_terms("house a 1\ninstrument A 1 1 0 1")
        self.assertEqual((len(terms.houses), len(terms.instruments)), (1, 1))

    def test_the_thirteenth_house(self):
        lines = ["house " + name + " 1" for name in house_names(13)]
        self.assertEqual(len(parse_terms("\n".join(lines[:12])).houses), 12)
        self.invalid("\n".join(lines), 13)

    def test_the_seventh_instrument(self):
        lines = ["instrument " + name + " 1 1 0 1" for name in "ABCDEFG"]
        self.assertEqual(len(parse_terms("\n".join(lines[:6])).instruments), 6)
        self.invalid("\n".join(lines), 7)

    def test_the_thirteenth_scenario(self):
        lines = ["instrument A 1 1 0 1"] + ["scenario 1"] * 13
        self.assertEqual(parse_terms("\n".join(lines[:13])).scenarios, [[1]] * 12)
        self.invalid("\n".join(lines), 14)

    def test_an_instrument_below_a_scenario(self):
        self.invalid("instrument A 1 1 0 1\nscenario 1\ninstrument B 1 1 0 1", 3)
        self.invalid("instrument A 1 1 0 1\nscenario 1\nhouse a 1\n#\ninstrument B 1 1 0 1\nwrong", 5)

    def test_the_number_of_moves(self):
        above = "instrument A 1 1 0 1\ninstrument B 1 1 0 1\n"
        self.assertEqual(parse_terms(above + "scenario 1 2").scenarios, [[1, 2]])
        self.invalid(above + "scenario 1", 3)
        self.invalid(above + "scenario 1 2 3", 3)
        self.invalid(above + "scenario", 3)

    def test_a_scenario_without_instruments(self):
        self.invalid("scenario", 1)
        self.invalid("scenario ", 1)
        self.invalid("scenario 1", 1)
        self.invalid("scenario 1\ninstrument A 1 1 0 1", 1)

    def test_moves_are_in_the_order_of_the_names_and_scenarios_in_the_order_of_the_lines(self):
        terms = parse_terms("instrument B 1 1 0 1\ninstrument A 1 1 0 1\nscenario 2 1\nscenario 0 5\nscenario 1 9")
        self.assertEqual(terms.scenarios, [[2, 1], [0, 5], [1, 9]])

    def test_shares(self):
        self.assertEqual(parse_terms("house a 1\nfund a 5").fund, [("a", 5)])
        self.invalid("house a 1\nfund b 5", 2)
        self.invalid("fund a 5\nhouse a 1", 1)
        self.invalid("house a 1\nfund a 5\nfund a 5", 3)
        self.invalid("house a 1\nfund a 0\nfund a 0", 3)
        self.invalid("instrument A 1 1 0 1\nfund A 5", 2)

    def test_one_fee_and_one_skin(self):
        self.invalid("fee 3\nfee 3", 2)
        self.invalid("fee 0\nfee 0", 2)
        self.invalid("skin 3\nfee 3\nskin 4", 3)
        self.invalid("skin 0\nskin 0", 2)


class FormatTest(TermsCase):
    def test_the_example(self):
        text = format_terms(parse_terms("house b 5\nhouse a 0\n# two houses\nfund b 2"))
        self.assertEqual(text, "house a 0\nhouse b 5\nfund b 2\nfee 0\nskin 0\n")

    def test_no_terms(self):
        self.assertEqual(format_terms(Terms()), "fee 0\nskin 0\n")

    def test_all_lines(self):
        self.assertEqual(format_terms(parse_terms(FULL)), (
            "house alder 1000000000\nhouse birch 500000\n"
            "instrument ELM 1 1 0 1\ninstrument OAK 5 10 100 1000\n"
            "scenario -20 30\nscenario 0 -1000000\n"
            "fund alder 0\nfund birch 2000\nfee 250\nskin 70\n"
        ))

    def test_names_are_ordered_as_strings(self):
        text = format_terms(parse_terms("house b 1\nhouse ab 1\nhouse aa 1\nhouse a 1\nfund b 0\nfund ab 0"))
        self.assertEqual([line.split(" ")[1] for line in text.split("\n")[:6]], ["a", "aa", "ab", "b", "ab", "b"])

    def test_terms_that_were_made_by_hand(self):
        terms = Terms()
        terms.houses = [("b", 1), ("a", 2)]
        terms.instruments = [("B", 1, 1, 0, 1), ("A", 2, 1, 0, 2)]
        terms.scenarios = [[3, 4], [1, 2]]
        terms.fund = [("b", 1), ("a", 2)]
        self.assertEqual(format_terms(terms), (
            "house a 2\nhouse b 1\ninstrument A 2 1 0 2\ninstrument B 1 1 0 1\n"
            "scenario 3 4\nscenario 1 2\nfund a 2\nfund b 1\nfee 0\nskin 0\n"
        ))
        self.assertEqual(terms.houses, [("b", 1), ("a", 2)])
        self.assertEqual(terms.instruments[0][0], "B")

    def test_the_text_describes_the_terms(self):
        for text in (FULL, "", "fee 7\nskin 9"):
            terms = parse_terms(text)
            before = [list(part) for part in fields(terms)[:4]]
            written = format_terms(terms)
            self.assertEqual(fields(parse_terms(written)), fields(terms))
            self.assertEqual(format_terms(parse_terms(written)), written)
            self.assertEqual([list(part) for part in fields(terms)[:4]], before)


if __name__ == "__main__":
    unittest.main()
