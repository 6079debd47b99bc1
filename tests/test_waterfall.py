"""Points 9.1 to 9.3: who bears a loss, and who gives up gains."""

import copy
import random
import unittest

from fairbourse.errors import InvalidAmount
from fairbourse.money import split
from fairbourse.waterfall import Default, bear, tear_up, tiers_of
from support import BourseCase

MOST = 10 ** 15
OUT_OF_RANGE = (-1, MOST + 1, -10 ** 30, 10 ** 30, True, None)


class BearTest(BourseCase):
    def test_the_example(self):
        self.assertEqual(bear(10, [[3], [4, 4]]), ([[3], [4, 3]], 0))

    def test_in_order(self):
        tiers = [[3], [4, 4], [10]]
        self.assertEqual(bear(2, tiers), ([[2], [0, 0], [0]], 0))
        self.assertEqual(bear(3, tiers), ([[3], [0, 0], [0]], 0))
        self.assertEqual(bear(4, tiers), ([[3], [1, 0], [0]], 0))
        self.assertEqual(bear(11, tiers), ([[3], [4, 4], [0]], 0))
        self.assertEqual(bear(12, tiers), ([[3], [4, 4], [1]], 0))
        self.assertEqual(bear(21, tiers), ([[3], [4, 4], [10]], 0))
        self.assertEqual(bear(22, tiers), ([[3], [4, 4], [10]], 1))
        self.assertEqual(tiers, [[3], [4, 4], [10]])

    def test_the_last_tier_that_is_reached_divides_its_part_by_split(self):
        self.assertEqual(bear(11, [[1], [6, 6, 2], [50]]), ([[1], [5, 4, 1], [0]], 0))
        self.assertEqual(bear(2, [[0, 7, 0, 7]]), ([[0, 1, 0, 1]], 0))

    def test_an_empty_tier(self):
        self.assertEqual(bear(5, [[], [3], []]), ([[], [3], []], 2))
        self.assertEqual(bear(5, [[]]), ([[]], 5))
        self.assertEqual(bear(0, [[], []]), ([[], []], 0))

    def test_no_tiers(self):
        self.assertEqual(bear(5, []), ([], 5))
        self.assertEqual(bear(0, []), ([], 0))

    def test_a_tier_of_zeros(self):
        self.assertEqual(bear(5, [[0, 0], [2], [0]]), ([[0, 0], [2], [0]], 3))

    def test_the_loss_0(self):
        self.assertEqual(bear(0, [[3], [4, 4], [0]]), ([[0], [0, 0], [0]], 0))

    def test_40_members(self):
        sizes = list(range(1, 41))
        self.assertEqual(bear(820, [sizes]), ([sizes], 0))
        self.assertEqual(bear(821, [sizes, sizes]), ([sizes, [0] * 39 + [1]], 0))
        self.assertEqual(bear(400, [sizes]), ([split(400, sizes)], 0))

    def test_the_greatest_numbers(self):
        self.assertEqual(bear(MOST, [[MOST]]), ([[MOST]], 0))
        self.assertEqual(bear(MOST, [[MOST - 1], [MOST] * 40]), ([[MOST - 1], [1] + [0] * 39], 0))
        self.assertEqual(bear(MOST, [[MOST] * 40]), ([[MOST // 40] * 40], 0))
        self.assertEqual(bear(MOST, [[1], []]), ([[1], []], MOST - 1))

    def test_numbers_out_of_range_at_any_place(self):
        for bad in OUT_OF_RANGE:
            self.raises(InvalidAmount, bear, bad, [[3], [4, 4]])
            self.raises(InvalidAmount, bear, bad, [])
            for loss in (0, 1, 5, MOST):
                for tiers in ([[bad]], [[bad], [3]], [[3], [bad]], [[3], [4, bad]], [[9], [], [1, bad, 1]]):
                    before = copy.deepcopy(tiers)
                    self.raises(InvalidAmount, bear, loss, tiers)
                    self.assertEqual(tiers, before)
            for at in range(40):
                self.raises(InvalidAmount, bear, 1, [[2] * at + [bad] + [2] * (39 - at)])

    def test_as_the_words_say(self):
        draw = random.Random(1)
        for _ in range(200):
            tiers = [[draw.randint(0, 9) for _ in range(draw.randint(0, 4))] for _ in range(draw.randint(0, 4))]
            before = copy.deepcopy(tiers)
            loss = draw.randint(0, 40)
            borne, left = bear(loss, tiers)
            self.assertEqual(tiers, before)
            rest = loss
            for sizes, parts in zip(tiers, borne):
                part = min(rest, sum(sizes))
                self.assertEqual(parts, split(part, sizes) if sizes else [])
                rest -= part
            self.assertEqual((len(borne), left), (len(tiers), rest))

    def test_two_losses_one_after_the_other(self):
        draw = random.Random(2)
        for _ in range(100):
            tiers = [[draw.randint(0, 9) for _ in range(draw.randint(0, 4))] for _ in range(draw.randint(0, 4))]
            first, second = draw.randint(0, 20), draw.randint(0, 20)
            borne, left = bear(first, tiers)
            rest = [[size - part for size, part in zip(*rows)] for rows in zip(tiers, borne)]
            more, further = bear(second, rest)
            both, all_left = bear(first + second, tiers)
            self.assertEqual(left + further, all_left)
            for rows in zip(borne, more, both):
                self.assertEqual(sum(rows[0]) + sum(rows[1]), sum(rows[2]))

    def test_the_lists_are_new_ones(self):
        tiers = [[3], [4, 4]]
        borne, _ = bear(11, tiers)
        borne[0][0] = 99
        borne[1].append(1)
        borne.append([5])
        self.assertEqual(tiers, [[3], [4, 4]])


class TiersOfTest(BourseCase):
    def test_each_place_of_the_fallen_house(self):
        shares = [5, 6, 7]
        self.assertEqual(tiers_of(0, 9, shares, 4), [[9], [5], [4], [0, 6, 7], [0, 12, 14]])
        self.assertEqual(tiers_of(1, 9, shares, 4), [[9], [6], [4], [5, 0, 7], [10, 0, 14]])
        self.assertEqual(tiers_of(2, 9, shares, 4), [[9], [7], [4], [5, 6, 0], [10, 12, 0]])
        self.assertEqual(shares, [5, 6, 7])

    def test_one_house(self):
        self.assertEqual(tiers_of(0, 9, [5], 4), [[9], [5], [4], [0], [0]])
        self.assertEqual(tiers_of(0, 0, [0], 0), [[0], [0], [0], [0], [0]])

    def test_houses_with_equal_shares(self):
        self.assertEqual(tiers_of(1, 1, [5, 5, 5], 2), [[1], [5], [2], [5, 0, 5], [10, 0, 10]])

    def test_the_lists_are_new_ones(self):
        shares = [5, 6, 7]
        tiers = tiers_of(0, 9, shares, 4)
        tiers[3][1] = 99
        self.assertEqual((shares, tiers[4]), ([5, 6, 7], [0, 12, 14]))


class TearUpTest(BourseCase):
    def test_gains_that_suffice(self):
        self.assertEqual(tear_up(10, [6, 6, 2]), [5, 4, 1])
        self.assertEqual(tear_up(0, [6, 6, 2]), [0, 0, 0])
        self.assertEqual(tear_up(14, [6, 6, 2]), [6, 6, 2])
        self.assertEqual(tear_up(3, [0, 4, 0]), [0, 3, 0])

    def test_gains_that_do_not_suffice(self):
        self.assertEqual(tear_up(15, [6, 6, 2]), [6, 6, 2])
        self.assertEqual(tear_up(MOST, [6, 0, 2]), [6, 0, 2])
        self.assertEqual(tear_up(9, [4]), [4])

    def test_gains_that_are_all_0(self):
        self.assertEqual(tear_up(9, [0, 0]), [0, 0])
        self.assertEqual(tear_up(0, [0]), [0])

    def test_40_gains(self):
        gains = list(range(40))
        self.assertEqual(tear_up(MOST, gains), gains)
        self.assertEqual(tear_up(100, gains), split(100, gains))
        self.assertEqual(tear_up(MOST, [MOST] * 40), [MOST // 40] * 40)

    def test_numbers_out_of_range(self):
        for bad in OUT_OF_RANGE:
            self.raises(InvalidAmount, tear_up, bad, [5, 5])
            for left in (0, 5, MOST):
                for gains in ([bad], [bad, 5], [5, bad], [5, 0, bad, 0]):
                    before = list(gains)
                    self.raises(InvalidAmount, tear_up, left, gains)
                    self.assertEqual(gains, before)

    def test_the_list_is_a_new_one(self):
        gains = [6, 6, 2]
        torn = tear_up(14, gains)
        torn[0] = 99
        self.assertEqual(gains, [6, 6, 2])


class DefaultTest(BourseCase):
    def check(self, default, tiers, borne, left, torn, uncovered):
        self.assertEqual(default.tiers, tiers)
        self.assertEqual(default.borne, borne)
        self.assertEqual(default.left, left)
        self.assertEqual(default.torn, torn)
        self.assertEqual(default.uncovered, uncovered)

    def test_a_loss_within_the_tiers(self):
        default = Default(1, 20, 3, [5, 6, 7], 4, [0, 0, 50])
        tiers = [[3], [6], [4], [5, 0, 7], [10, 0, 14]]
        self.check(default, tiers, [[3], [6], [4], [3, 0, 4], [0, 0, 0]], 0, [0, 0, 0], 0)
        self.assertEqual([default.borne_by(house) for house in range(3)], [3, 0, 4])

    def test_a_loss_that_reaches_the_last_tier(self):
        default = Default(0, 40, 3, [5, 6, 7], 4, [0, 0, 50])
        tiers = [[3], [5], [4], [0, 6, 7], [0, 12, 14]]
        self.check(default, tiers, [[3], [5], [4], [0, 6, 7], [0, 7, 8]], 0, [0, 0, 0], 0)
        self.assertEqual([default.borne_by(house) for house in range(3)], [0, 13, 15])

    def test_a_loss_that_is_torn_up(self):
        default = Default(2, 60, 3, [5, 6, 7], 4, [10, 0, 30])
        tiers = [[3], [7], [4], [5, 6, 0], [10, 12, 0]]
        self.check(default, tiers, tiers, 13, [3, 0, 10], 0)
        self.assertEqual([default.borne_by(house) for house in range(3)], [18, 18, 10])

    def test_what_is_uncovered(self):
        default = Default(2, 100, 3, [5, 6, 7], 4, [10, 0, 30])
        tiers = [[3], [7], [4], [5, 6, 0], [10, 12, 0]]
        self.check(default, tiers, tiers, 53, [10, 0, 30], 13)
        self.assertEqual([default.borne_by(house) for house in range(3)], [25, 18, 30])
        default = Default(0, 5, 0, [0], 0, [0])
        self.check(default, [[0]] * 5, [[0]] * 5, 5, [0], 5)
        self.assertEqual(default.borne_by(0), 0)

    def test_the_loss_0(self):
        default = Default(1, 0, 3, [5, 6], 4, [10, 0])
        self.check(default, [[3], [6], [4], [5, 0], [10, 0]], [[0], [0], [0], [0, 0], [0, 0]], 0, [0, 0], 0)

    def test_each_place_of_the_fallen_house(self):
        shares = [5, 6, 7, 8]
        gains = [1, 2, 3, 4]
        for fallen in range(4):
            for loss in range(0, 120, 7):
                default = Default(fallen, loss, 3, shares, 4, gains)
                self.assertEqual(default.tiers, tiers_of(fallen, 3, shares, 4))
                self.assertEqual((default.borne, default.left), bear(loss, default.tiers))
                self.assertEqual(default.torn, tear_up(default.left, gains))
                self.assertEqual(default.uncovered, default.left - sum(default.torn))
                first = sum(sum(parts) for parts in default.borne[:3])
                others = sum(default.borne_by(house) for house in range(4))
                self.assertEqual(first + others + default.uncovered, loss)
                self.assertEqual(default.borne_by(fallen), default.torn[fallen])
        self.assertEqual((shares, gains), ([5, 6, 7, 8], [1, 2, 3, 4]))

    def test_each_number_out_of_range(self):
        for bad in OUT_OF_RANGE:
            for loss in (0, 9, MOST):
                self.raises(InvalidAmount, Default, 0, loss, bad, [5, 6], 4, [1, 2])
                self.raises(InvalidAmount, Default, 0, loss, 3, [5, 6], bad, [1, 2])
                self.raises(InvalidAmount, Default, 0, loss, 3, [5, 6], 4, [bad, 2])
                self.raises(InvalidAmount, Default, 0, loss, 3, [5, 6], 4, [1, bad])
            self.raises(InvalidAmount, Default, 0, bad, 3, [5, 6], 4, [1, 2])
        for bad in (-1, MOST + 1, 10 ** 30, True):
            for fallen in (0, 1):
                self.raises(InvalidAmount, Default, fallen, 9, 3, [bad, 6], 4, [1, 2])
                self.raises(InvalidAmount, Default, fallen, 9, 3, [5, bad], 4, [1, 2])

    def test_twice_a_share_is_a_size_too(self):
        half = MOST // 2
        Default(0, MOST, 0, [MOST, half], 0, [0, 0])
        self.raises(InvalidAmount, Default, 0, MOST, 0, [MOST, half + 1], 0, [0, 0])
        self.raises(InvalidAmount, Default, 1, MOST, 0, [MOST, half], 0, [0, 0])

    def test_changing_lists_changes_no_object(self):
        shares = [5, 6, 7]
        gains = [10, 0, 30]
        default = Default(2, 60, 3, shares, 4, gains)
        shares[0] = 99
        gains.clear()
        tiers = [[3], [7], [4], [5, 6, 0], [10, 12, 0]]
        self.check(default, tiers, tiers, 13, [3, 0, 10], 0)
        self.assertEqual(default.borne_by(0), 18)
        default.tiers[3][0] = 99
        self.assertEqual(default.borne_by(0), 18)


if __name__ == "__main__":
    unittest.main()
