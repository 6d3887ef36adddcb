"""share, by order, dividends, potentials and swing."""

import unittest
from fractions import Fraction

from bywords import shares_by_words, uneven_costs
from telling import ask, ask_last, by_order, costs, dividends, game, hours, potentials, share, swing

BILLION = 10 ** 9

# Regions 0, 1, 2 alone: 6, 5, 7; 0 and 1: 9; 0 and 2: 10; 1 and 2: 8; all: 12.
THREE = [6, 5, 9, 7, 10, 8, 12]
# Each group costs 1, whoever is in it.
ONE_FOR_ALL = [1] * 255
# Each group costs what its regions cost alone: 1, 2, 4, ..., 128.
ADDED_UP = list(range(1, 256))
# Only all together cost something.
ALL_ALONE = [0] * 254 + [1]


def pairs(numbers):
    return [Fraction(numerator, denominator) for numerator, denominator in zip(numbers[0::2], numbers[1::2])]


class ShareTest(unittest.TestCase):
    def test_two_regions(self):
        # Region 0 adds 6 and 8 - 4, region 1 adds 8 - 6 and 4.
        self.assertEqual(ask_last(game(0, 2, [6, 4, 8]), share(0)), [5, 1, 3, 1])

    def test_three_regions(self):
        # Orders 012 021 102 120 201 210: region 0 adds 6 6 4 4 3 4, region 1 3 2 5 5 2 1, region 2 3 4 3 3 7 7.
        self.assertEqual(ask_last(game(0, 3, THREE), share(0)), [9, 2, 3, 1, 9, 2])

    def test_one_region(self):
        self.assertEqual(ask_last(game(0, 1, [7]), share(0)), [7, 1])
        self.assertEqual(ask_last(game(0, 1, [-7]), share(0)), [-7, 1])
        self.assertEqual(ask_last(game(0, 1, [0]), share(0)), [0, 1])

    def test_below_0_in_lowest_terms(self):
        # Region 0 adds -6 and -9 + 4, region 1 adds -9 + 6 and -4.
        self.assertEqual(ask_last(game(0, 2, [-6, -4, -9]), share(0)), [-11, 2, -7, 2])
        self.assertEqual(ask_last(game(0, 2, [1, -1, 0]), share(0)), [1, 1, -1, 1])
        self.assertEqual(ask_last(game(0, 3, [0] * 6 + [-4]), share(0)), [-4, 3] * 3)

    def test_eight_regions(self):
        self.assertEqual(ask_last(game(0, 8, ONE_FOR_ALL), share(0)), [1, 8] * 8)
        self.assertEqual(ask_last(game(0, 8, ALL_ALONE), share(0)), [1, 8] * 8)
        self.assertEqual(ask_last(game(0, 8, ADDED_UP), share(0)),
                         [1, 1, 2, 1, 4, 1, 8, 1, 16, 1, 32, 1, 64, 1, 128, 1])

    def test_costs_at_their_bounds(self):
        for far in (BILLION, -BILLION):
            self.assertEqual(ask_last(game(0, 8, [far] * 255), share(0)), [far // 8, 1] * 8)
            self.assertEqual(ask_last(game(0, 3, [far] * 7), share(0)), [far, 3] * 3)

    def test_game_told_by_demands(self):
        # The costs are 3, 4 and 5: region 0 adds 3 and 1, region 1 adds 4 and 2.
        self.assertEqual(ask_last(hours(0, 2, 2, [3, 1, 1, 4]), share(0)), [2, 1, 3, 1])

    def test_mean_over_all_orders(self):
        for n in range(1, 6):
            for seed in range(6):
                told = uneven_costs(n, 100 * n + seed)
                answer = ask_last(game(0, n, told), share(0))
                expected = shares_by_words(n, told)
                self.assertEqual(answer, [x for f in expected for x in (f.numerator, f.denominator)])

    def test_shares_come_to_the_cost_of_all(self):
        for n in range(1, 9):
            for seed in range(6):
                told = uneven_costs(n, 7 * n + seed)
                self.assertEqual(sum(pairs(ask_last(game(0, n, told), share(0)))), told[-1])


class ByOrderTest(unittest.TestCase):
    def test_every_order_of_three(self):
        expected = {(0, 1, 2): [6, 3, 3], (0, 2, 1): [6, 2, 4], (1, 0, 2): [4, 5, 3], (1, 2, 0): [4, 5, 3],
                    (2, 0, 1): [3, 2, 7], (2, 1, 0): [4, 1, 7]}
        for order, added in expected.items():
            self.assertEqual(ask_last(game(0, 3, THREE), by_order(0, list(order))), added)

    def test_one_region(self):
        self.assertEqual(ask_last(game(0, 1, [7]), by_order(0, [0])), [7])
        self.assertEqual(ask_last(game(0, 1, [-4]), by_order(0, [0])), [-4])

    def test_eight_regions(self):
        self.assertEqual(ask_last(game(0, 8, ONE_FOR_ALL), by_order(0, [5, 0, 7, 1, 2, 3, 4, 6])),
                         [0, 0, 0, 0, 0, 1, 0, 0])
        self.assertEqual(ask_last(game(0, 8, ALL_ALONE), by_order(0, [5, 0, 7, 1, 2, 3, 4, 6])),
                         [0, 0, 0, 0, 0, 0, 1, 0])
        self.assertEqual(ask_last(game(0, 8, ADDED_UP), by_order(0, [7, 6, 5, 4, 3, 2, 1, 0])),
                         [1, 2, 4, 8, 16, 32, 64, 128])

    def test_between_the_bounds(self):
        self.assertEqual(ask_last(game(0, 2, [BILLION, -BILLION, -BILLION]), by_order(0, [0, 1])),
                         [BILLION, -2 * BILLION])

    def test_no_order(self):
        wrong = ([], [0], [0, 1], [0, 1, 2, 3], [0, 1, 1], [0, 1, 3], [-1, 0, 1], [1, 2, 3], [0, 0, 0],
                 [0, 1, 2, 0], [0, 1, 2] * 333)
        for order in wrong:
            self.assertEqual(ask_last(game(0, 3, THREE), by_order(0, order)), [-4])
        self.assertEqual(ask(game(0, 1, [7]), by_order(0, []), by_order(0, [1]), by_order(0, [0, 0]), by_order(0, [0])),
                         [[1], [-4], [-4], [-4], [7]])

    def test_slot_is_told_first(self):
        self.assertEqual(ask(by_order(-1, []), by_order(8, []), by_order(0, [])), [[-1], [-1], [-2]])


class DividendsTest(unittest.TestCase):
    def test_two_regions(self):
        self.assertEqual(ask_last(game(0, 2, [6, 4, 8]), dividends(0)), [0, 6, 4, -2])

    def test_three_regions(self):
        # 9-6-5, 10-6-7, 8-5-7 and 12-9-10-8+6+5+7.
        self.assertEqual(ask_last(game(0, 3, THREE), dividends(0)), [0, 6, 5, -2, 7, -3, -4, 3])

    def test_one_region(self):
        self.assertEqual(ask_last(game(0, 1, [-3]), dividends(0)), [0, -3])

    def test_eight_regions(self):
        # Of groups that all cost 1 it is 1 with an odd number of regions, else -1; group 0 has 0.
        self.assertEqual(ask_last(game(0, 8, ONE_FOR_ALL), dividends(0)),
                         [0] + [1 if bin(group).count("1") % 2 else -1 for group in range(1, 256)])
        self.assertEqual(ask_last(game(0, 8, ALL_ALONE), dividends(0)), [0] * 255 + [1])
        alone = [group if bin(group).count("1") == 1 else 0 for group in range(256)]
        self.assertEqual(ask_last(game(0, 8, ADDED_UP), dividends(0)), alone)

    def test_signs_that_all_add_up(self):
        # Odd groups cost 10^9, even ones -10^9. All are 8: the 127 even groups are added, the 128 odd ones taken off.
        told = [BILLION if bin(group).count("1") % 2 else -BILLION for group in range(1, 256)]
        self.assertEqual(ask_last(game(0, 8, told), dividends(0))[255], -255 * BILLION)

    def test_sum_over_the_groups_within(self):
        for n in range(1, 6):
            told = [0] + uneven_costs(n, n)
            expected = []
            for group in range(2 ** n):
                within = [t for t in range(2 ** n) if t & group == t]
                expected.append(sum(told[t] * (-1) ** bin(group ^ t).count("1") for t in within))
            self.assertEqual(ask_last(game(0, n, told[1:]), dividends(0)), expected)

    def test_the_costs_stay(self):
        self.assertEqual(ask_last(game(0, 2, [6, 4, 8]), dividends(0), costs(0)), [0, 6, 4, 8])


class PotentialsTest(unittest.TestCase):
    def test_two_regions(self):
        self.assertEqual(ask_last(game(0, 2, [6, 4, 8]), potentials(0)), [0, 1, 6, 1, 4, 1, 9, 1])

    def test_three_regions(self):
        # (9+6+5)/2, (10+6+7)/2, (8+5+7)/2 and (12+10+23/2+10)/3.
        self.assertEqual(ask_last(game(0, 3, THREE), potentials(0)),
                         [0, 1, 6, 1, 5, 1, 10, 1, 7, 1, 23, 2, 10, 1, 29, 2])

    def test_one_region_below_0(self):
        self.assertEqual(ask_last(game(0, 1, [-3]), potentials(0)), [0, 1, -3, 1])

    def test_below_0_in_lowest_terms(self):
        self.assertEqual(ask_last(game(0, 2, [0, 0, -3]), potentials(0)), [0, 1, 0, 1, 0, 1, -3, 2])
        self.assertEqual(ask_last(game(0, 2, [0, 0, -4]), potentials(0)), [0, 1, 0, 1, 0, 1, -2, 1])

    def test_eight_regions(self):
        # If all groups cost 1, a group of k has 1 + 1/2 + ... + 1/k.
        by_size = [(0, 1), (1, 1), (3, 2), (11, 6), (25, 12), (137, 60), (49, 20), (363, 140), (761, 280)]
        expected = [number for group in range(256) for number in by_size[bin(group).count("1")]]
        self.assertEqual(ask_last(game(0, 8, ONE_FOR_ALL), potentials(0)), expected)
        self.assertEqual(ask_last(game(0, 8, ALL_ALONE), potentials(0)), [0, 1] * 255 + [1, 8])
        self.assertEqual(ask_last(game(0, 8, ADDED_UP), potentials(0)),
                         [number for group in range(256) for number in (group, 1)])

    def test_by_the_words(self):
        for n in range(1, 7):
            told = [0] + uneven_costs(n, 50 + n)
            expected = [Fraction(0)]
            for group in range(1, 2 ** n):
                members = [region for region in range(n) if group & 2 ** region]
                total = told[group] + sum(expected[group - 2 ** region] for region in members)
                expected.append(total / len(members))
            self.assertEqual(ask_last(game(0, n, told[1:]), potentials(0)),
                             [x for f in expected for x in (f.numerator, f.denominator)])


class SwingTest(unittest.TestCase):
    def test_two_regions(self):
        self.assertEqual(ask_last(game(0, 2, [6, 4, 8]), swing(0)), [5, 1, 3, 1])

    def test_three_regions(self):
        # Region 0 adds 6 4 3 4, region 1 adds 5 3 1 2, region 2 adds 7 4 3 3.
        self.assertEqual(ask_last(game(0, 3, THREE), swing(0)), [17, 4, 11, 4, 17, 4])

    def test_one_region(self):
        self.assertEqual(ask_last(game(0, 1, [-3]), swing(0)), [-3, 1])

    def test_eight_regions(self):
        self.assertEqual(ask_last(game(0, 8, ONE_FOR_ALL), swing(0)), [1, 128] * 8)
        self.assertEqual(ask_last(game(0, 8, [-1] * 255), swing(0)), [-1, 128] * 8)
        self.assertEqual(ask_last(game(0, 8, ALL_ALONE), swing(0)), [1, 128] * 8)
        self.assertEqual(ask_last(game(0, 8, ADDED_UP), swing(0)),
                         [1, 1, 2, 1, 4, 1, 8, 1, 16, 1, 32, 1, 64, 1, 128, 1])
        # 10^9 is 2^9 times 5^9, so it may be divided by 128.
        self.assertEqual(ask_last(game(0, 8, [BILLION] * 255), swing(0)), [7812500, 1] * 8)


class ThreeRoadsTest(unittest.TestCase):
    def test_the_roads_meet(self):
        for n in range(1, 9):
            told = uneven_costs(n, 900 + n)
            answer = ask(game(0, n, told), share(0), dividends(0), potentials(0))
            shares = pairs(answer[1])
            parts = answer[2]
            heights = pairs(answer[3])
            for region in range(n):
                groups = [group for group in range(2 ** n) if group & 2 ** region]
                self.assertEqual(sum(Fraction(parts[g], bin(g).count("1")) for g in groups), shares[region])
                self.assertEqual(heights[-1] - heights[2 ** n - 1 - 2 ** region], shares[region])


class RefusalTest(unittest.TestCase):
    def test_slots(self):
        for call in (costs, share, dividends, potentials, swing):
            self.assertEqual(ask(game(0, 1, [1]), game(7, 1, [1]), call(-1), call(8), call(1), call(6)),
                             [[1], [1], [-1], [-1], [-2], [-2]])


if __name__ == "__main__":
    unittest.main()
