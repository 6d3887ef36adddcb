"""game, hours, cost, costs and peak."""

import unittest

from telling import ask, ask_last, cost, costs, game, hours, peak, sums

BILLION = 10 ** 9
MILLION = 10 ** 6


class GameTest(unittest.TestCase):
    def test_costs_stand_by_group(self):
        self.assertEqual(ask(game(0, 2, [6, 4, 8]), costs(0), cost(0, 0), cost(0, 1), cost(0, 2), cost(0, 3)),
                         [[2], [0, 6, 4, 8], [0], [6], [4], [8]])

    def test_one_region(self):
        self.assertEqual(ask(game(0, 1, [5]), costs(0)), [[1], [0, 5]])

    def test_eight_regions(self):
        told = list(range(1, 256))
        self.assertEqual(ask(game(7, 8, told), costs(7), cost(7, 255), cost(7, 254), cost(7, 0)),
                         [[8], [0] + told, [255], [254], [0]])

    def test_costs_at_their_bounds_and_below_0(self):
        self.assertEqual(ask(game(0, 2, [BILLION, -BILLION, -1]), costs(0), cost(0, 2), cost(0, 3)),
                         [[2], [0, BILLION, -BILLION, -1], [-BILLION], [-1]])

    def test_costs_beyond_their_bounds(self):
        for far in (BILLION + 1, -BILLION - 1):
            for place in range(3):
                told = [1, 2, 3]
                told[place] = far
                self.assertEqual(ask(game(0, 2, told), costs(0)), [[-4], [-2]])

    def test_regions_beyond_their_bounds(self):
        self.assertEqual(ask(game(0, 0, []), game(0, 0, [1]), game(0, -1, []), game(0, -1, [1])), [[-4]] * 4)
        self.assertEqual(ask(game(0, 9, [1] * 511), game(0, 9, [1] * 255)), [[-4]] * 2)

    def test_lists_too_long_too_short_and_empty(self):
        for n in range(1, 9):
            right = 2 ** n - 1
            self.assertEqual(ask(game(0, n, [1] * (right + 1)), game(0, n, [1] * (right - 1)), game(0, n, []),
                                 game(0, n, [1] * 1000), costs(0), game(0, n, [1] * right)),
                             [[-4], [-4], [-4], [-4], [-2], [n]])

    def test_a_slot_is_filled_again(self):
        self.assertEqual(ask(game(3, 2, [6, 4, 8]), game(3, 1, [7]), costs(3), game(3, 3, [1, 2, 3, 4, 5, 6, 7]),
                             costs(3)),
                         [[2], [1], [0, 7], [3], [0, 1, 2, 3, 4, 5, 6, 7]])

    def test_refused_game_leaves_the_slot(self):
        self.assertEqual(ask(game(3, 2, [6, 4, 8]), game(3, 2, [6, 4, BILLION + 1]), game(3, 1, [1, 2]), costs(3)),
                         [[2], [-4], [-4], [0, 6, 4, 8]])

    def test_first_and_last_slot(self):
        self.assertEqual(ask(game(0, 1, [5]), game(7, 1, [6]), costs(0), costs(7)), [[1], [1], [0, 5], [0, 6]])

    def test_slot_beyond_its_bounds_is_told_first(self):
        self.assertEqual(ask(game(-1, 1, [5]), game(8, 1, [5]), game(-1, 0, []), game(8, 9, [BILLION + 1])),
                         [[-1]] * 4)


class CostTest(unittest.TestCase):
    def test_no_group(self):
        self.assertEqual(ask(game(0, 2, [6, 4, 8]), cost(0, 4), cost(0, -1), cost(0, 3)), [[2], [-5], [-5], [8]])
        self.assertEqual(ask_last(game(0, 1, [6]), cost(0, 2)), [-5])
        self.assertEqual(ask_last(game(0, 8, [6] * 255), cost(0, 256)), [-5])

    def test_slot_is_told_before_the_group(self):
        self.assertEqual(ask(cost(8, -1), cost(-1, -1), cost(0, -1), cost(7, 0)), [[-1], [-1], [-2], [-2]])


class HoursTest(unittest.TestCase):
    def test_cost_is_the_greatest_demand(self):
        # By hours: region 0 asks 3 1, region 1 asks 1 4, both together 4 5.
        self.assertEqual(ask(hours(0, 2, 2, [3, 1, 1, 4]), costs(0)), [[2], [0, 3, 4, 5]])

    def test_three_regions(self):
        # Regions 0, 1 and 2 ask 5 0 2, 1 6 1, 0 1 4; 0+1: 6 6 3; 0+2: 5 1 6; 1+2: 1 7 5; all: 6 7 7.
        self.assertEqual(ask(hours(2, 3, 3, [5, 0, 2, 1, 6, 1, 0, 1, 4]), costs(2), peak(2)),
                         [[3], [0, 5, 6, 6, 4, 6, 7, 7], [1, 0, 1, 6, 1, 1, 1]])

    def test_one_region_one_hour(self):
        self.assertEqual(ask(hours(0, 1, 1, [9]), costs(0), peak(0)), [[1], [0, 9], [0, 9, 1]])

    def test_eight_regions_24_hours_greatest_demands(self):
        told = ask(hours(0, 8, 24, [MILLION] * 192), cost(0, 255), cost(0, 1), cost(0, 7), cost(0, 0), peak(0))
        self.assertEqual(told, [[8], [8 * MILLION], [MILLION], [3 * MILLION], [0], [0] + [MILLION, 1] * 8])

    def test_demands_of_0(self):
        self.assertEqual(ask(hours(0, 2, 3, [0] * 6), costs(0), peak(0)), [[2], [0, 0, 0, 0], [0, 0, 1, 0, 1]])

    def test_demands_beyond_their_bounds(self):
        for far in (-1, MILLION + 1):
            for place in range(4):
                told = [3, 1, 1, 4]
                told[place] = far
                self.assertEqual(ask(hours(0, 2, 2, told), costs(0)), [[-4], [-2]])

    def test_regions_and_hours_beyond_their_bounds(self):
        self.assertEqual(ask(hours(0, 0, 1, []), hours(0, 9, 1, [1] * 9), hours(0, -1, 1, [1]),
                             hours(0, 1, 0, []), hours(0, 1, 25, [1] * 25), hours(0, 1, -1, [1]),
                             hours(0, -2, -2, [1] * 4), hours(0, 0, 0, []), costs(0)),
                         [[-4]] * 8 + [[-2]])

    def test_lists_too_long_too_short_and_empty(self):
        for n, h in ((1, 1), (1, 24), (8, 1), (8, 24), (3, 5)):
            self.assertEqual(ask(hours(0, n, h, [1] * (n * h + 1)), hours(0, n, h, [1] * (n * h - 1)),
                                 hours(0, n, h, []), hours(0, n, h, [1] * 1000), costs(0),
                                 hours(0, n, h, [1] * (n * h))),
                             [[-4], [-4], [-4], [-4], [-2], [n]])

    def test_slot_is_told_first(self):
        self.assertEqual(ask(hours(8, 0, 0, []), hours(-1, 1, 1, [1])), [[-1], [-1]])

    def test_refused_hours_leave_the_slot(self):
        self.assertEqual(ask(hours(0, 1, 2, [3, 4]), hours(0, 1, 2, [3, -1]), costs(0), peak(0)),
                         [[1], [-4], [0, 4], [1, 4, 1]])


class PeakTest(unittest.TestCase):
    def test_first_of_equal_peaks(self):
        # All together ask 2 5 5 1.
        self.assertEqual(ask_last(hours(0, 2, 4, [1, 2, 4, 0, 1, 3, 1, 1]), peak(0)), [1, 2, 1, 3, 1])

    def test_peak_of_all_together_not_of_one(self):
        # Region 0 alone peaks in hour 0, all together in hour 2: 10 9 13.
        self.assertEqual(ask_last(hours(0, 2, 3, [10, 2, 6, 0, 7, 7]), peak(0)), [2, 6, 1, 7, 1])

    def test_last_of_24_hours(self):
        self.assertEqual(ask_last(hours(0, 1, 24, [0] * 23 + [1]), peak(0)), [23, 1, 1])

    def test_region_without_demand_in_the_peak(self):
        self.assertEqual(ask_last(hours(0, 2, 2, [0, 9, 5, 0]), peak(0)), [1, 9, 1, 0, 1])

    def test_not_told_by_demands(self):
        self.assertEqual(ask_last(game(0, 1, [5]), peak(0)), [-6])
        self.assertEqual(ask(hours(0, 1, 1, [5]), game(0, 1, [5]), peak(0)), [[1], [1], [-6]])
        self.assertEqual(ask(game(0, 1, [5]), hours(0, 1, 1, [6]), peak(0)), [[1], [1], [0, 6, 1]])

    def test_sum_into_the_slot(self):
        self.assertEqual(ask(hours(0, 1, 1, [5]), hours(1, 1, 1, [6]), sums(0, 1, 0), peak(0), peak(1), sums(0, 1, 2),
                             peak(2), hours(0, 1, 1, [4]), peak(0)),
                         [[1], [1], [1], [-6], [0, 6, 1], [1], [-6], [1], [0, 4, 1]])

    def test_refused_calls_leave_the_demands(self):
        self.assertEqual(ask(hours(0, 1, 1, [5]), game(0, 1, []), game(1, 2, [1, 1, 1]), sums(0, 1, 0),
                             sums(0, 2, 0), peak(0)),
                         [[1], [-4], [2], [-3], [-2], [0, 5, 1]])

    def test_hours_again(self):
        self.assertEqual(ask(hours(0, 1, 2, [5, 6]), hours(0, 2, 1, [3, 4]), peak(0)), [[1], [2], [0, 3, 1, 4, 1]])

    def test_slot_is_told_first(self):
        self.assertEqual(ask(peak(-1), peak(8), peak(0)), [[-1], [-1], [-2]])


if __name__ == "__main__":
    unittest.main()
