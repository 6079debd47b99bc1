"""Points 7.1 to 7.4: losses, requirements and margin calls."""

import copy
import itertools
import random
import unittest

from fairbourse.errors import InvalidAmount
from fairbourse.margin import loss, margin_calls, order_requirement, requirement
from support import BourseCase


class LossTest(BourseCase):
    def test_minus_units_times_moves(self):
        self.assertEqual(loss([10], [-3]), 30)
        self.assertEqual(loss([10], [3]), -30)
        self.assertEqual(loss([-4], [3]), 12)
        self.assertEqual(loss([-4], [-3]), -12)
        self.assertEqual(loss([10, -4, 0], [-3, 1, 100]), 34)
        self.assertEqual(loss([10, -4], [2, 5]), 0)

    def test_no_instruments(self):
        self.assertEqual(loss([], []), 0)

    def test_large_numbers(self):
        self.assertEqual(loss([10 ** 30, 1], [-10 ** 6, 1]), 10 ** 36 - 1)

    def test_unlike_lengths(self):
        for positions, scenario in (([1], []), ([], [1]), ([1, 2], [1]), ([1], [1, 2]), ([0, 0, 0], [0, 0])):
            before = copy.deepcopy((positions, scenario))
            self.raises(InvalidAmount, loss, positions, scenario)
            self.assertEqual((positions, scenario), before)

    def test_losses_are_added_as_positions_are(self):
        draw = random.Random(1)
        for _ in range(50):
            many = draw.randint(1, 6)
            first, second, scenario = ([draw.randint(-99, 99) for _ in range(many)] for _ in range(3))
            both = [one + other for one, other in zip(first, second)]
            self.assertEqual(loss(both, scenario), loss(first, scenario) + loss(second, scenario))
            self.assertEqual(loss([7 * units for units in first], scenario), 7 * loss(first, scenario))
            self.assertEqual(loss(first, scenario), -sum(a * b for a, b in zip(first, scenario)))


class RequirementTest(BourseCase):
    def test_the_greatest_loss_and_its_scenario(self):
        self.assertEqual(requirement([10, -4], [[-3, 1], [2, 2], [-5, 0]]), (50, 2))
        self.assertEqual(requirement([10, -4], [[-3, 1], [2, 2], [0, 0]]), (34, 0))
        self.assertEqual(requirement([10, -4], [[1, 0], [-3, 1], [2, 2]]), (34, 1))
        self.assertEqual(requirement([1], [[0], [-1]]), (1, 1))

    def test_the_first_of_several_scenarios_with_this_loss(self):
        self.assertEqual(requirement([10, 6], [[1, 1], [-3, 0], [0, -5], [-3, 0]]), (30, 1))
        self.assertEqual(requirement([2], [[-5], [-5], [-4]]), (10, 0))

    def test_no_loss_above_0(self):
        for scenarios in ([[3]], [[0]], [[3], [0], [1]]):
            self.assertEqual(requirement([10], scenarios), (0, None))
        self.assertEqual(requirement([0], [[-3], [3]]), (0, None))

    def test_no_scenarios(self):
        self.assertEqual(requirement([10, -4], []), (0, None))
        self.assertEqual(requirement([], []), (0, None))

    def test_no_instruments(self):
        self.assertEqual(requirement([], [[], []]), (0, None))

    def test_unlike_lengths(self):
        for positions, scenarios in (
            ([1], [[]]), ([1], [[1, 2]]), ([], [[1]]), ([1, 2], [[1, 2], [1]]), ([1, 2], [[1, 2], [1, 2, 3]]),
        ):
            before = copy.deepcopy((positions, scenarios))
            self.raises(InvalidAmount, requirement, positions, scenarios)
            self.assertEqual((positions, scenarios), before)

    def test_positions_added_and_taken_several_times(self):
        draw = random.Random(2)
        for _ in range(60):
            many = draw.randint(1, 4)
            scenarios = [[draw.randint(-9, 9) for _ in range(many)] for _ in range(draw.randint(0, 5))]
            first, second = ([draw.randint(-9, 9) for _ in range(many)] for _ in range(2))
            before = copy.deepcopy((first, second, scenarios))
            both = requirement([one + other for one, other in zip(first, second)], scenarios)[0]
            self.assertLessEqual(both, requirement(first, scenarios)[0] + requirement(second, scenarios)[0])
            needed, index = requirement(first, scenarios)
            self.assertEqual(requirement([5 * units for units in first], scenarios), (5 * needed, index))
            self.assertEqual((first, second, scenarios), before)

    def test_as_the_words_say(self):
        draw = random.Random(3)
        for _ in range(200):
            many = draw.randint(1, 3)
            scenarios = [[draw.randint(-2, 2) for _ in range(many)] for _ in range(draw.randint(1, 5))]
            positions = [draw.randint(-2, 2) for _ in range(many)]
            losses = [loss(positions, scenario) for scenario in scenarios]
            expected = (max(losses), losses.index(max(losses))) if max(losses) > 0 else (0, None)
            self.assertEqual(requirement(positions, scenarios), expected)


class OrderRequirementTest(BourseCase):
    def test_the_example(self):
        self.assertEqual(order_requirement([10, -4], [(0, 5), (1, 2)], [[-3, 1], [2, 2]]), (49, 0))

    def test_an_order_counts_where_its_loss_is_above_0(self):
        scenarios = [[-3], [4]]
        self.assertEqual(order_requirement([0], [(0, 5)], scenarios), (15, 0))
        self.assertEqual(order_requirement([0], [(0, -5)], scenarios), (20, 1))
        self.assertEqual(order_requirement([0], [(0, 5), (0, -5)], scenarios), (20, 1))
        self.assertEqual(order_requirement([-10], [(0, 5)], scenarios), (40, 1))
        self.assertEqual(order_requirement([10], [(0, -5)], scenarios), (30, 0))
        self.assertEqual(order_requirement([10], [(0, 5), (0, -30)], scenarios), (80, 1))

    def test_several_orders_on_a_side(self):
        self.assertEqual(order_requirement([0], [(0, 5), (0, 2), (0, 5)], [[-3]]), (36, 0))

    def test_orders_in_several_instruments(self):
        orders = [(0, 5), (1, -2), (2, 7), (1, 4)]
        self.assertEqual(order_requirement([1, 1, 1], orders, [[-1, 2, -3], [1, -2, 3]]), (32, 0))
        self.assertEqual(order_requirement([1, 1, 1], orders, [[1, -2, 3]]), (6, 0))

    def test_the_first_scenario_with_this_loss(self):
        self.assertEqual(order_requirement([0, 0], [(0, 2), (1, 2)], [[1, 1], [0, -5], [-5, 0], [-5, 3]]), (10, 1))

    def test_no_orders(self):
        draw = random.Random(4)
        for _ in range(40):
            scenarios = [[draw.randint(-9, 9) for _ in range(3)] for _ in range(draw.randint(0, 4))]
            positions = [draw.randint(-9, 9) for _ in range(3)]
            self.assertEqual(order_requirement(positions, [], scenarios), requirement(positions, scenarios))

    def test_no_scenarios(self):
        self.assertEqual(order_requirement([10, -4], [(0, 5), (1, -2)], []), (0, None))

    def test_no_loss_above_0(self):
        self.assertEqual(order_requirement([10], [(0, 5)], [[0], [2]]), (0, None))
        self.assertEqual(order_requirement([10], [(0, -5)], [[2]]), (0, None))
        self.assertEqual(order_requirement([1], [(0, -1)], [[1]]), (0, None))
        self.assertEqual(order_requirement([1], [(0, -2)], [[1]]), (1, 0))

    def test_an_index_that_does_not_exist(self):
        for index in (-1, -2, -3, 2, 3, 10 ** 9):
            for orders in ([(index, 5)], [(0, 1), (index, 0)], [(index, -5), (1, 1)]):
                for scenarios in ([[-3, 1]], [[-3, 1], [2, 2]]):
                    before = copy.deepcopy((orders, scenarios))
                    self.raises(InvalidAmount, order_requirement, [10, -4], orders, scenarios)
                    self.assertEqual((orders, scenarios), before)
        self.raises(InvalidAmount, order_requirement, [10], [(-1, 5)], [])
        self.raises(InvalidAmount, order_requirement, [], [(0, 5)], [[]])
        self.assertEqual(order_requirement([0, 0], [(0, 1), (1, 1)], [[-3, -1]]), (4, 0))

    def test_unlike_lengths(self):
        self.raises(InvalidAmount, order_requirement, [10], [(0, 1)], [[1, 2]])
        self.raises(InvalidAmount, order_requirement, [10, 4], [(0, 1)], [[1]])

    def test_whichever_parts_are_traded_the_requirement_covers_what_results(self):
        draw = random.Random(5)
        for _ in range(60):
            many = draw.randint(1, 3)
            scenarios = [[draw.randint(-4, 4) for _ in range(many)] for _ in range(draw.randint(1, 4))]
            positions = [draw.randint(-4, 4) for _ in range(many)]
            orders = [(draw.randrange(many), draw.choice([-3, -2, -1, 1, 2, 3])) for _ in range(draw.randint(0, 4))]
            before = copy.deepcopy((positions, orders, scenarios))
            needed, _ = order_requirement(positions, orders, scenarios)
            self.assertEqual((positions, orders, scenarios), before)
            worst = 0
            ranges = [range(min(0, units), max(0, units) + 1) for _, units in orders]
            for traded in itertools.product(*ranges):
                after = list(positions)
                left = []
                for (index, units), part in zip(orders, traded):
                    after[index] += part
                    left.append((index, units - part))
                self.assertLessEqual(order_requirement(after, left, scenarios)[0], needed)
                worst = max(worst, requirement(after, scenarios)[0])
            self.assertEqual(worst, needed)


class MarginCallsTest(BourseCase):
    def test_what_lacks_or_0(self):
        self.assertEqual(margin_calls([50, 20, 7, 0, 0], [30, 20, 9, 5, 0]), [20, 0, 0, 0, 0])
        self.assertEqual(margin_calls([1], [0]), [1])
        self.assertEqual(margin_calls([0], [1]), [0])

    def test_no_houses(self):
        self.assertEqual(margin_calls([], []), [])

    def test_unlike_lengths(self):
        for requirements, posted in (([1], []), ([], [1]), ([1, 2], [1]), ([1], [1, 2])):
            before = copy.deepcopy((requirements, posted))
            self.raises(InvalidAmount, margin_calls, requirements, posted)
            self.assertEqual((requirements, posted), before)

    def test_the_list_is_a_new_one(self):
        requirements = [5, 6]
        posted = [1, 1]
        calls = margin_calls(requirements, posted)
        calls[0] = 99
        self.assertEqual((requirements, posted), ([5, 6], [1, 1]))


if __name__ == "__main__":
    unittest.main()
