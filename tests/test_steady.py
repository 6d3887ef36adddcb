"""dearer, stable and shows."""

import unittest

from telling import ask, ask_last, costs, dearer, game, hours, shows, stable

BILLION = 10 ** 9
TRILLION = 10 ** 12
MILLION = 10 ** 6

THREE = [6, 5, 9, 7, 10, 8, 12]
# One region costs 2, two cost 2, three cost 6.
CHEAP_PAIRS = [2, 2, 2, 2, 2, 2, 6]
ADDED_UP = list(range(1, 256))


class DearerTest(unittest.TestCase):
    def test_never(self):
        self.assertEqual(ask_last(game(0, 2, [6, 4, 8]), dearer(0)), [0])
        self.assertEqual(ask_last(game(0, 8, [1] * 255), dearer(0)), [0])

    def test_as_dear_is_not_dearer(self):
        self.assertEqual(ask_last(game(0, 2, [6, 4, 10]), dearer(0)), [0])
        self.assertEqual(ask_last(game(0, 8, ADDED_UP), dearer(0)), [0])

    def test_one_region(self):
        self.assertEqual(ask_last(game(0, 1, [BILLION]), dearer(0)), [0])

    def test_two_regions(self):
        self.assertEqual(ask_last(game(0, 2, [6, 4, 11]), dearer(0)), [1, 0, 1, 0])
        self.assertEqual(ask_last(game(0, 2, [-6, -4, -9]), dearer(0)), [1, 0, 1, 0])

    def test_group_that_is_not_0(self):
        # Region 0 adds 4 to the group of 1 and 2, 3 to that of 2; 4 to that of 1, 6 to nobody.
        self.assertEqual(ask_last(game(0, 3, THREE), dearer(0)), [1, 0, 1, 4])

    def test_least_j(self):
        # Region 0 adds 1 alone, 1 with region 1, 2 with region 2, 2 with both.
        self.assertEqual(ask_last(game(0, 3, [1, 1, 2, 1, 3, 2, 4]), dearer(0)), [1, 0, 2, 0])

    def test_least_i(self):
        # Region 0 adds 1 whoever is there; region 1 adds 1 more with region 2.
        self.assertEqual(ask_last(game(0, 3, [1, 1, 2, 1, 2, 3, 4]), dearer(0)), [1, 1, 2, 0])

    def test_least_j_comes_before_the_least_group(self):
        # With region 2 in group 0, and with region 1 in the group of 2: the least j is 1.
        self.assertEqual(ask_last(game(0, 3, [1, 1, 2, 1, 3, 2, 5]), dearer(0)), [1, 0, 1, 4])

    def test_last_group_of_eight_regions(self):
        self.assertEqual(ask_last(game(0, 8, [0] * 254 + [1]), dearer(0)), [1, 0, 1, 252])

    def test_last_two_of_eight_regions(self):
        told = [1 if group & 192 == 192 else 0 for group in range(1, 256)]
        self.assertEqual(ask_last(game(0, 8, told), dearer(0)), [1, 6, 7, 0])

    def test_between_the_bounds(self):
        self.assertEqual(ask_last(game(0, 2, [-BILLION, -BILLION, BILLION]), dearer(0)), [1, 0, 1, 0])
        self.assertEqual(ask_last(game(0, 2, [BILLION, BILLION, -BILLION]), dearer(0)), [0])

    def test_game_told_by_demands(self):
        self.assertEqual(ask_last(hours(0, 2, 2, [3, 1, 1, 4]), dearer(0)), [0])

    def test_slots(self):
        self.assertEqual(ask(dearer(-1), dearer(8), dearer(0), dearer(7)), [[-1], [-1], [-2], [-2]])


class StableTest(unittest.TestCase):
    def test_stable(self):
        self.assertEqual(ask_last(game(0, 3, THREE), stable(0, 2, [9, 6, 9])), [1])
        self.assertEqual(ask_last(game(0, 2, [6, 4, 8]), stable(0, 1, [5, 3])), [1])

    def test_complaints_of_0_are_stable(self):
        self.assertEqual(ask_last(game(0, 2, [6, 4, 8]), stable(0, 1, [6, 2])), [1])
        self.assertEqual(ask_last(game(0, 2, [6, 4, 8]), stable(0, 1, [4, 4])), [1])
        self.assertEqual(ask_last(game(0, 8, ADDED_UP), stable(0, 1, [1, 2, 4, 8, 16, 32, 64, 128])), [1])

    def test_complaint_of_one_region(self):
        self.assertEqual(ask_last(game(0, 2, [6, 4, 8]), stable(0, 1, [7, 1])), [0, 1, 1, 1])
        self.assertEqual(ask_last(game(0, 2, [6, 4, 8]), stable(0, 1, [-2, 10])), [0, 2, 6, 1])

    def test_complaint_in_lowest_terms(self):
        # 26/4 less 6 is 1/2.
        self.assertEqual(ask_last(game(0, 2, [6, 4, 8]), stable(0, 4, [26, 6])), [0, 1, 1, 2])
        self.assertEqual(ask_last(game(0, 2, [6, 4, 8]), stable(0, 4, [25, 7])), [0, 1, 1, 4])
        self.assertEqual(ask_last(game(0, 2, [6, 4, 8]), stable(0, 4, [28, 4])), [0, 1, 1, 1])

    def test_complaint_of_a_group_of_two(self):
        # Complaints: 0: 6-6, 1: 1-5, 0 and 1: 7-9, 2: 5-7, 0 and 2: 11-10, 1 and 2: 6-8.
        self.assertEqual(ask_last(game(0, 3, THREE), stable(0, 1, [6, 1, 5])), [0, 5, 1, 1])

    def test_greatest_complaint(self):
        # Complaints: 0: 8-6, 1: 0-5, 0 and 1: 8-9, 2: 4-7, 0 and 2: 12-10, 1 and 2: 4-8; of groups 1 and 5 the least.
        self.assertEqual(ask_last(game(0, 3, THREE), stable(0, 1, [8, 0, 4])), [0, 1, 2, 1])
        # 0: 8-6, 1: -1-5, 0 and 1: 7-9, 2: 5-7, 0 and 2: 13-10.
        self.assertEqual(ask_last(game(0, 3, THREE), stable(0, 1, [8, -1, 5])), [0, 5, 3, 1])

    def test_least_of_equal_complaints(self):
        self.assertEqual(ask_last(game(0, 3, CHEAP_PAIRS), stable(0, 1, [2, 2, 2])), [0, 3, 2, 1])

    def test_costs_below_0(self):
        # Complaints: 0: -3+6, 1: -2+1.
        self.assertEqual(ask_last(game(0, 2, [-6, -1, -5]), stable(0, 1, [-3, -2])), [0, 1, 3, 1])

    def test_not_covering(self):
        # It is told ahead of complaints.
        self.assertEqual(ask_last(game(0, 2, [6, 4, 8]), stable(0, 1, [5, 2])), [2])
        self.assertEqual(ask_last(game(0, 2, [6, 4, 8]), stable(0, 1, [5, 4])), [2])
        self.assertEqual(ask_last(game(0, 2, [6, 4, 8]), stable(0, 1, [100, 100])), [2])
        self.assertEqual(ask_last(game(0, 2, [6, 4, 8]), stable(0, 2, [5, 3])), [2])

    def test_one_region(self):
        self.assertEqual(ask(game(0, 1, [5]), stable(0, 1, [5]), stable(0, 1, [4]), stable(0, 3, [15])),
                         [[1], [1], [2], [1]])

    def test_denominator_at_its_bounds(self):
        self.assertEqual(ask(game(0, 2, [6, 4, 8]), stable(0, MILLION, [5 * MILLION, 3 * MILLION]),
                             stable(0, MILLION, [6 * MILLION + 1, 2 * MILLION - 1]),
                             stable(0, MILLION + 1, [5 * MILLION + 5, 3 * MILLION + 3]),
                             stable(0, 0, [5, 3]), stable(0, -1, [-5, -3]), stable(0, 1, [5, 3])),
                         [[2], [1], [0, 1, 1, MILLION], [-4], [-4], [-4], [1]])

    def test_shares_at_their_bounds(self):
        self.assertEqual(ask_last(game(0, 2, [0, 0, 0]), stable(0, 1, [TRILLION, -TRILLION])), [0, 1, TRILLION, 1])
        self.assertEqual(ask_last(game(0, 2, [0, 0, 0]), stable(0, 3, [-TRILLION, TRILLION])), [0, 2, TRILLION, 3])
        self.assertEqual(ask_last(game(0, 2, [0, 0, 0]), stable(0, 1, [TRILLION + 1, -TRILLION])), [-4])
        self.assertEqual(ask_last(game(0, 2, [0, 0, 0]), stable(0, 1, [TRILLION, -TRILLION - 1])), [-4])

    def test_lists_too_long_too_short_and_empty(self):
        self.assertEqual(ask(game(0, 2, [6, 4, 8]), stable(0, 1, []), stable(0, 1, [8]), stable(0, 1, [5, 3, 0]),
                             stable(0, 1, [0] * 1000)),
                         [[2], [-4], [-4], [-4], [-4]])
        self.assertEqual(ask(game(0, 8, ADDED_UP), stable(0, 1, [1] * 7), stable(0, 1, [1] * 9),
                             stable(0, 1, [1] * 8)),
                         [[8], [-4], [-4], [2]])

    def test_last_group_but_one(self):
        # All but region 0 pay 1 each, and would pay 0 alone; without one more it's 6.
        told = [1 if group & 1 else 0 for group in range(1, 256)]
        self.assertEqual(ask_last(game(0, 8, told), stable(0, 1, [-6, 1, 1, 1, 1, 1, 1, 1])), [0, 254, 7, 1])

    def test_slots(self):
        self.assertEqual(ask(stable(-1, 0, []), stable(8, 1, [1]), stable(0, 0, []), stable(7, 1, [1])),
                         [[-1], [-1], [-2], [-2]])


class ShowsTest(unittest.TestCase):
    def test_pairs_that_show_it(self):
        # Each region is in two of the pairs, the halves of 2+2+2 are 3, and all cost 6.
        self.assertEqual(ask_last(game(0, 3, CHEAP_PAIRS), shows(0, 2, [3, 1, 5, 1, 6, 1])), [1])
        self.assertEqual(ask_last(game(0, 3, CHEAP_PAIRS), shows(0, 1, [3, 1, 4, 1])), [1])

    def test_as_much_is_not_less(self):
        self.assertEqual(ask_last(game(0, 3, [4, 4, 4, 4, 4, 4, 6]), shows(0, 2, [3, 1, 5, 1, 6, 1])), [0])
        self.assertEqual(ask_last(game(0, 2, [6, 4, 8]), shows(0, 1, [3, 1])), [0])
        self.assertEqual(ask_last(game(0, 2, [4, 4, 8]), shows(0, 1, [1, 1, 2, 1])), [0])

    def test_more_is_not_less(self):
        self.assertEqual(ask_last(game(0, 2, [6, 4, 8]), shows(0, 1, [1, 1, 2, 1])), [0])

    def test_weights_that_do_not_come_to_1(self):
        self.assertEqual(ask_last(game(0, 3, CHEAP_PAIRS), shows(0, 2, [3, 1, 5, 1])), [0])
        self.assertEqual(ask_last(game(0, 3, CHEAP_PAIRS), shows(0, 2, [3, 1, 5, 1, 6, 1, 1, 1])), [0])
        self.assertEqual(ask_last(game(0, 3, CHEAP_PAIRS), shows(0, 3, [3, 1, 5, 1, 6, 1])), [0])
        self.assertEqual(ask_last(game(0, 3, CHEAP_PAIRS), shows(0, 1, [3, 1, 5, 1, 6, 1])), [0])

    def test_a_weight_below_0(self):
        # The weights come to 1 for each region, and 2+1-1 is less than 6, but one weight is below 0.
        self.assertEqual(ask_last(game(0, 2, [1, 1, 6]), shows(0, 1, [1, 2, 2, 1, 1, -1])), [0])
        self.assertEqual(ask_last(game(0, 2, [1, 1, 6]), shows(0, 1, [1, 1, 2, 1, 0, -1])), [0])

    def test_a_weight_of_0(self):
        self.assertEqual(ask_last(game(0, 2, [1, 1, 6]), shows(0, 1, [1, 1, 2, 1, 3, 0])), [1])

    def test_a_group_told_twice(self):
        self.assertEqual(ask_last(game(0, 2, [1, 1, 6]), shows(0, 2, [1, 1, 2, 2, 1, 1])), [1])
        self.assertEqual(ask_last(game(0, 2, [4, 4, 6]), shows(0, 2, [1, 1, 2, 2, 1, 1])), [0])

    def test_nobody_as_a_group(self):
        self.assertEqual(ask_last(game(0, 2, [1, 1, 6]), shows(0, 1, [1, 1, 2, 1, 0, MILLION])), [1])

    def test_empty_list(self):
        self.assertEqual(ask_last(game(0, 1, [6]), shows(0, 1, [])), [0])

    def test_one_region(self):
        self.assertEqual(ask(game(0, 1, [6]), shows(0, 1, [1, 1]), shows(0, 2, [1, 1, 1, 1])), [[1], [0], [0]])

    def test_costs_below_0(self):
        self.assertEqual(ask_last(game(0, 2, [-3, -3, -5]), shows(0, 1, [1, 1, 2, 1])), [1])
        self.assertEqual(ask_last(game(0, 2, [-3, -3, -6]), shows(0, 1, [1, 1, 2, 1])), [0])

    def test_1000_numbers(self):
        self.assertEqual(ask_last(game(0, 2, [1, 1, 3]), shows(0, 250, [1, 1, 2, 1] * 250)), [1])
        self.assertEqual(ask_last(game(0, 2, [1, 1, 2]), shows(0, 250, [1, 1, 2, 1] * 250)), [0])

    def test_eight_regions(self):
        told = [1] * 254 + [9]
        alone = [number for region in range(8) for number in (2 ** region, 1)]
        self.assertEqual(ask_last(game(0, 8, told), shows(0, 1, alone)), [1])
        self.assertEqual(ask_last(game(0, 8, [1] * 254 + [8]), shows(0, 1, alone)), [0])

    def test_denominator_and_weights_at_their_bounds(self):
        at = [1, MILLION, 2, MILLION]
        self.assertEqual(ask(game(0, 2, [1, 1, 3]), shows(0, MILLION, at), shows(0, MILLION + 1, at),
                             shows(0, 0, []), shows(0, -1, at), shows(0, 1, [0, -MILLION]),
                             shows(0, 1, [1, MILLION + 1, 2, 1]), shows(0, 1, [1, -MILLION - 1, 2, 1]),
                             shows(0, 1, [1, 1, 2, MILLION + 1])),
                         [[2], [1], [-4], [-4], [-4], [0], [-4], [-4], [-4]])

    def test_not_pairs(self):
        self.assertEqual(ask(game(0, 2, [1, 1, 3]), shows(0, 1, [1]), shows(0, 1, [1, 1, 2]), shows(0, 1, [1] * 999)),
                         [[2], [-4], [-4], [-4]])

    def test_no_group(self):
        self.assertEqual(ask(game(0, 2, [1, 1, 3]), shows(0, 1, [4, 1]), shows(0, 1, [-1, 1]),
                             shows(0, 1, [1, 1, 2, 1, 4, 0]), shows(0, 1, [1, 1, 2, 1]), costs(0)),
                         [[2], [-4], [-4], [-4], [1], [0, 1, 1, 3]])
        self.assertEqual(ask_last(game(0, 8, [1] * 255), shows(0, 1, [256, 1])), [-4])
        self.assertEqual(ask_last(game(0, 8, [1] * 255), shows(0, 1, [255, 1])), [0])

    def test_slots(self):
        self.assertEqual(ask(shows(-1, 0, [1]), shows(8, 1, []), shows(0, 0, [1]), shows(7, 1, [])),
                         [[-1], [-1], [-2], [-2]])


if __name__ == "__main__":
    unittest.main()
