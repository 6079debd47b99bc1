"""Points 1.1 to 1.8."""

import itertools
import random
import unittest
from fractions import Fraction

from fairbourse.errors import InvalidAmount, InvalidWeights
from fairbourse.money import deal, deal_order, fee, format_cents, parse_cents, split
from support import BourseCase

TOP = 10 ** 18
HEAVY = 10 ** 15


def split_by_the_words(amount, weights):
    """Point 1.2, word by word, with exact fractions."""
    total = sum(weights)
    if total == 0:
        return [0] * len(weights)
    parts = [amount * weight // total for weight in weights]
    while sum(parts) < amount:
        quotients = [Fraction(weight, part + 1) for weight, part in zip(weights, parts)]
        parts[quotients.index(max(quotients))] += 1
    return parts


def deal_by_the_words(amount, weights):
    """Point 1.4, word by word, with a search for each due cent."""
    total = sum(weights)
    parts = [0] * len(weights)
    order = []
    for number in range(1, amount + 1):
        best = None
        for index, weight in enumerate(weights):
            if parts[index] * total < number * weight:
                due = next(d for d in itertools.count() if d * weight // total == parts[index] + 1)
                if best is None or due < best[0]:
                    best = (due, index)
        parts[best[1]] += 1
        order.append(best[1])
    return order


def drawn_weights(draw, most):
    weights = [draw.choice([0, draw.randint(0, most)]) for _ in range(draw.randint(1, 8))]
    weights[draw.randrange(len(weights))] += draw.randint(1, 3)
    return weights


class SplitTest(BourseCase):
    def test_the_example(self):
        self.assertEqual(split(10, [6, 6, 2]), [5, 4, 1])

    def test_even_parts(self):
        self.assertEqual(split(100, [1, 1]), [50, 50])
        self.assertEqual(split(7, [3]), [7])

    def test_the_least_index_wins_a_tie(self):
        self.assertEqual(split(1, [5, 5, 5]), [1, 0, 0])
        self.assertEqual(split(2, [5, 5, 5]), [1, 1, 0])
        self.assertEqual(split(1, [0, 5, 5]), [0, 1, 0])
        self.assertEqual(split(1, [1, 2, 2]), [0, 1, 0])

    def test_a_cent_goes_to_the_greatest_quotient_not_to_the_greatest_remainder(self):
        # The exact shares are 9.1, 0.45 and 0.45: the greatest remainder would be the one of index 1.
        self.assertEqual(split(10, [182, 9, 9]), [10, 0, 0])

    def test_the_parts_of_the_moment_count(self):
        # Floors are 4, 0, 0 and 0; the first index gets one of the three cents, then the others are ahead.
        self.assertEqual(split(7, [20, 4, 4, 4]), split_by_the_words(7, [20, 4, 4, 4]))
        self.assertEqual(split(5, [3, 1, 1, 1, 1]), [3, 1, 1, 0, 0])

    def test_quotients_are_compared_exactly(self):
        self.assertEqual(split(1, [HEAVY - 1, HEAVY]), [0, 1])
        self.assertEqual(split(1, [HEAVY, HEAVY - 1]), [1, 0])
        weights = [HEAVY - 1, HEAVY, HEAVY - 1]
        self.assertEqual(split(TOP - 1, weights), split_by_the_words(TOP - 1, weights))

    def test_zero_weights(self):
        self.assertEqual(split(0, [0, 0, 0]), [0, 0, 0])
        self.assertEqual(split(0, [0]), [0])
        self.assertEqual(split(0, [3, 4]), [0, 0])
        self.assertEqual(split(9, [0, 4, 0]), [0, 9, 0])

    def test_the_words_of_the_point(self):
        draw = random.Random(12)
        for most in (1, 3, 10, 1000, HEAVY - 3):
            for _ in range(200):
                weights = drawn_weights(draw, most)
                amount = draw.choice([draw.randint(0, 30), draw.randint(0, 2000), draw.randint(0, TOP)])
                parts = split(amount, weights)
                self.assertEqual(parts, split_by_the_words(amount, weights), (amount, weights))
                self.assertEqual(sum(parts), amount)

    def test_a_greater_amount_gives_nobody_less(self):
        draw = random.Random(13)
        for _ in range(50):
            weights = drawn_weights(draw, 12)
            rows = [split(amount, weights) for amount in range(60)]
            for before, after in zip(rows, rows[1:]):
                self.assertTrue(all(one <= other for one, other in zip(before, after)), weights)

    def test_an_amount_equal_to_the_total_gives_each_its_weight(self):
        for weights in ([6, 6, 2], [0, 7], [HEAVY] * 40, [1] * 40):
            self.assertEqual(split(sum(weights), weights), weights)

    def test_the_bounds(self):
        self.assertEqual(split(TOP, [1]), [TOP])
        self.assertEqual(split(0, [1]), [0])
        self.assertEqual(split(40, [1] * 40), [1] * 40)
        self.assertEqual(split(2, [HEAVY, HEAVY]), [1, 1])

    def test_an_amount_out_of_range(self):
        for amount in (-1, -TOP, TOP + 1, 10 ** 5000, -(10 ** 5000)):
            self.raises(InvalidAmount, split, amount, [1])

    def test_invalid_weights(self):
        wrong = ([], [1] * 41, [-1], [1, -1], [HEAVY + 1], [1, HEAVY + 1], [0], [0] * 40, [10 ** 5000], [2, -1])
        for weights in wrong:
            self.raises(InvalidWeights, split, 1, weights)
        for weights in ([], [0] * 41, [-1], [-1, 1], [HEAVY + 1]):
            self.raises(InvalidWeights, split, 0, weights)

    def test_the_amount_is_checked_first(self):
        for weights in ([], [-1], [0], [1] * 41):
            self.raises(InvalidAmount, split, -1, weights)
            self.raises(InvalidAmount, split, TOP + 1, weights)

    def test_the_arguments_stay_and_the_list_is_new(self):
        weights = [6, 6, 2]
        parts = split(14, weights)
        parts.append(1)
        self.assertEqual(weights, [6, 6, 2])
        self.assertEqual(split(14, weights), [6, 6, 2])


class DealTest(BourseCase):
    def test_the_example(self):
        self.assertEqual(deal_order(5, [3, 2]), [0, 1, 0, 0, 1])
        self.assertEqual(deal(5, [3, 2]), [3, 2])

    def test_the_least_index_wins_a_tie(self):
        self.assertEqual(deal_order(4, [1, 1]), [0, 1, 0, 1])
        self.assertEqual(deal_order(3, [2, 2, 2]), [0, 1, 2])
        self.assertEqual(deal(1, [0, 1, 1]), [0, 1, 0])

    def test_an_index_that_is_not_eligible_waits(self):
        # After two cents the heavy index would be due first again, but it has as many as its exact share.
        self.assertEqual(deal_order(4, [2, 1, 1]), deal_by_the_words(4, [2, 1, 1]))
        self.assertEqual(deal_order(10, [9, 1]), [0] * 9 + [1])

    def test_an_index_without_weight_gets_nothing(self):
        self.assertEqual(deal_order(3, [0, 4, 0]), [1, 1, 1])
        self.assertEqual(deal(3, [0, 4, 0]), [0, 3, 0])

    def test_no_cents(self):
        for weights in ([0], [0, 0], [3, 2]):
            self.assertEqual(deal_order(0, weights), [])
            self.assertEqual(deal(0, weights), [0] * len(weights))

    def test_the_words_of_the_point(self):
        draw = random.Random(14)
        for most in (1, 2, 5, 12, 40):
            for _ in range(40):
                weights = drawn_weights(draw, most)
                amount = draw.randint(0, 60)
                order = deal_order(amount, weights)
                self.assertEqual(order, deal_by_the_words(amount, weights), (amount, weights))
                self.assertEqual(deal(amount, weights), [order.count(k) for k in range(len(weights))])

    def test_each_part_differs_by_less_than_a_cent(self):
        draw = random.Random(15)
        for most in (3, 20, HEAVY - 3):
            for _ in range(20):
                weights = drawn_weights(draw, most)
                total = sum(weights)
                parts = [0] * len(weights)
                for number, index in enumerate(deal_order(80, weights), start=1):
                    parts[index] += 1
                    for part, weight in zip(parts, weights):
                        self.assertLess(abs(part * total - number * weight), total)

    def test_the_bounds(self):
        self.assertEqual(deal(9999, [HEAVY]), [9999])
        self.assertEqual(deal_order(9999, [1]), [0] * 9999)
        self.assertEqual(deal(40, [HEAVY] * 40), [1] * 40)
        self.assertEqual(sum(deal(9999, list(range(40)))), 9999)

    def test_an_amount_out_of_range(self):
        for function in (deal_order, deal):
            for amount in (-1, 10000, TOP):
                self.raises(InvalidAmount, function, amount, [1])

    def test_invalid_weights(self):
        for function in (deal_order, deal):
            for weights in ([], [1] * 41, [-1], [1, -1], [HEAVY + 1], [0], [0] * 40):
                self.raises(InvalidWeights, function, 1, weights)
            for weights in ([], [0] * 41, [-1], [HEAVY + 1]):
                self.raises(InvalidWeights, function, 0, weights)

    def test_the_amount_is_checked_first(self):
        for function in (deal_order, deal):
            for weights in ([], [-1], [0]):
                self.raises(InvalidAmount, function, -1, weights)
                self.raises(InvalidAmount, function, 10000, weights)

    def test_the_arguments_stay(self):
        weights = [3, 2]
        deal_order(7, weights)
        deal(7, weights)
        self.assertEqual(weights, [3, 2])


class FeeTest(BourseCase):
    def test_the_example(self):
        self.assertEqual(fee(1250, 3000), (3, 750000))

    def test_the_carried_part(self):
        self.assertEqual(fee(1250, 3000, 250000), (4, 0))
        self.assertEqual(fee(1250, 3000, 249999), (3, 999999))
        self.assertEqual(fee(1250, 3000, carried=750000), (4, 500000))
        self.assertEqual(fee(0, 0, 999999), (0, 999999))

    def test_the_equation_of_the_point(self):
        draw = random.Random(16)
        for _ in range(300):
            amount = draw.choice([draw.randint(0, 5000), draw.randint(0, TOP)])
            rate = draw.randint(0, 10 ** 6)
            old = draw.randint(0, 999999)
            cents, new = fee(amount, rate, old)
            self.assertEqual(cents * 10 ** 6 + new, amount * rate + old)
            self.assertTrue(0 <= new <= 999999)

    def test_the_bounds(self):
        self.assertEqual(fee(0, 0), (0, 0))
        self.assertEqual(fee(0, 0, 0), (0, 0))
        self.assertEqual(fee(TOP, 10 ** 6, 999999), (TOP, 999999))
        self.assertEqual(fee(1, 10 ** 6), (1, 0))

    def test_arguments_out_of_range(self):
        self.raises(InvalidAmount, fee, -1, 0)
        self.raises(InvalidAmount, fee, TOP + 1, 0)
        self.raises(InvalidAmount, fee, 0, -1)
        self.raises(InvalidAmount, fee, 0, 10 ** 6 + 1)
        self.raises(InvalidAmount, fee, 0, 0, -1)
        self.raises(InvalidAmount, fee, 0, 0, 10 ** 6)
        self.raises(InvalidAmount, fee, 0, 0, carried=10 ** 6)


class WrittenFormTest(BourseCase):
    FORMS = [
        (0, "0.00"), (1, "0.01"), (-1, "-0.01"), (7, "0.07"), (10, "0.10"), (99, "0.99"), (-99, "-0.99"),
        (100, "1.00"), (-100, "-1.00"), (101, "1.01"), (-1205, "-12.05"), (123456, "1234.56"),
        (10 ** 12, "10000000000.00"), (-(10 ** 12), "-10000000000.00"), (10 ** 12 - 1, "9999999999.99"),
    ]
    NO_FORMS = [
        "", "0", "1", "-", ".", "-.", "00", "1.", ".50", "-.50", "1.0", "1.000", "01.00", "00.00", "-01.00",
        "-0.00", "+1.00", "+0.01", "--1.00", "1-.00", "1.00-", "1..00", "1.0.0", ".100", "100", "-100",
        "1,00", "1,000.00", "1_0.00", " 1.00", "1.00 ", "1.00\n", "1 .00", "a", "a.00", "1.0a", "0x1.00",
        "1e2.00", "\u0661.\u0660\u0660", "1.\u00b2\u00b2", "\uff11.00", "\u22121.00", "none",
    ]

    def test_the_examples(self):
        self.assertEqual(format_cents(-1205), "-12.05")
        self.assertEqual(parse_cents("0.07"), 7)

    def test_the_forms(self):
        for cents, text in self.FORMS:
            with self.subTest(text):
                self.assertEqual(format_cents(cents), text)
                self.assertEqual(parse_cents(text), cents)

    def test_writing_has_no_bound(self):
        self.assertEqual(format_cents(10 ** 18), "1" + "0" * 16 + ".00")
        self.assertEqual(format_cents(-(10 ** 12) - 1), "-10000000000.01")

    def test_each_form_is_read_back(self):
        for cents in list(range(-1100, 1101)) + [12345678901, -98765432109]:
            self.assertEqual(parse_cents(format_cents(cents)), cents)

    def test_no_forms(self):
        for text in self.NO_FORMS:
            with self.subTest(text):
                self.raises(InvalidAmount, parse_cents, text)

    def test_amounts_beyond_the_bounds(self):
        for text in ("10000000000.01", "-10000000000.01", "100000000000.00", "9" * 30 + ".00", "9" * 6000 + ".00"):
            self.raises(InvalidAmount, parse_cents, text)


if __name__ == "__main__":
    unittest.main()
