"""scale, dual, rename and merge."""

import unittest

from bywords import uneven_costs
from telling import (LEAST, MOST, ask, ask_last, cost, costs, dual, game, hours, merge, peak, rename, scale, share,
                     sums)

BILLION = 10 ** 9
TRILLION = 10 ** 12

# Regions 0, 1, 2 alone: 6, 5, 7; 0 and 1: 9; 0 and 2: 10; 1 and 2: 8; all: 12.
THREE = [6, 5, 9, 7, 10, 8, 12]
# Each group costs what its regions cost alone: 1, 2, 4, ...
FOUR_ADDED_UP = list(range(1, 16))
ADDED_UP = list(range(1, 256))


def each_new_game(s, to):
    """One call of each that makes a game of a game with two regions or more."""
    return [scale(s, to, 1), dual(s, to), rename(s, to, [0]), merge(s, to, 3)]


def wrong_behind_the_slots(s, to):
    """One call of each that is refused behind its slots."""
    return [scale(s, to, 1001), rename(s, to, []), merge(s, to, 0)]


class ScaleTest(unittest.TestCase):
    def test_each_cost(self):
        self.assertEqual(ask(game(0, 2, [6, 4, 8]), scale(0, 1, 3), costs(1), costs(0)),
                         [[2], [2], [0, 18, 12, 24], [0, 6, 4, 8]])
        self.assertEqual(ask(game(0, 3, THREE), scale(0, 1, -2), costs(1)),
                         [[3], [3], [0, -12, -10, -18, -14, -20, -16, -24]])

    def test_factor_at_its_bounds(self):
        self.assertEqual(ask(game(0, 2, [6, -4, 8]), scale(0, 1, 1000), costs(1), scale(0, 2, -1000), costs(2),
                             scale(0, 3, 0), costs(3), scale(0, 4, 1), costs(4), scale(0, 5, -1), costs(5)),
                         [[2], [2], [0, 6000, -4000, 8000], [2], [0, -6000, 4000, -8000], [2], [0, 0, 0, 0],
                          [2], [0, 6, -4, 8], [2], [0, -6, 4, -8]])

    def test_factor_beyond_its_bounds(self):
        for far in (1001, -1001, LEAST, MOST):
            self.assertEqual(ask(game(0, 2, [6, 4, 8]), scale(0, 1, far), costs(1), scale(0, 0, far), costs(0)),
                             [[2], [-4], [-2], [-4], [0, 6, 4, 8]])

    def test_into_the_same_slot(self):
        self.assertEqual(ask(game(3, 2, [6, 4, 8]), scale(3, 3, 5), costs(3), scale(3, 3, -2), costs(3)),
                         [[2], [2], [0, 30, 20, 40], [2], [0, -60, -40, -80]])

    def test_one_and_eight_regions(self):
        self.assertEqual(ask(game(0, 1, [-5]), scale(0, 0, 7), costs(0)), [[1], [1], [0, -35]])
        self.assertEqual(ask(game(0, 8, ADDED_UP), scale(0, 7, 10), costs(7)),
                         [[8], [8], [0] + [10 * number for number in ADDED_UP]])

    def test_just_at_the_bound(self):
        for sign in (1, -1):
            self.assertEqual(ask(game(0, 1, [sign * BILLION]), scale(0, 1, 1000), costs(1), scale(0, 2, -1000),
                                 costs(2), scale(1, 1, -1), costs(1)),
                             [[1], [1], [0, sign * TRILLION], [1], [0, -sign * TRILLION], [1], [0, -sign * TRILLION]])

    def test_one_beyond_the_bound(self):
        # 99990001 * 137 * 73 is 10^12 + 1, and 73 times one less is 10^12 - 72.
        for sign in (1, -1):
            told = ask(game(0, 1, [sign * 99990001]), scale(0, 0, 137), scale(0, 1, 73), scale(0, 1, -73), costs(1),
                       scale(0, 0, 73), costs(0), game(1, 1, [-sign]), sums(0, 1, 0), scale(0, 1, 73), costs(1))
            self.assertEqual(told, [[1], [1], [-7], [-7], [-2], [-7], [0, sign * 13698630137], [1], [1], [1],
                                    [0, sign * (TRILLION - 72)]])

    def test_one_cost_of_many_beyond_the_bound(self):
        for place in range(3):
            told = [0, 0, 0]
            told[place] = BILLION
            self.assertEqual(ask(game(0, 2, told), scale(0, 0, 1000), scale(0, 0, 2), scale(0, 1, -2), costs(1),
                                 scale(0, 0, 0), costs(0)),
                             [[2], [2], [-7], [-7], [-2], [2], [0, 0, 0, 0]])

    def test_shares_grow_alike(self):
        self.assertEqual(ask_last(game(0, 3, THREE), scale(0, 1, 4), share(1)), [18, 1, 12, 1, 18, 1])


class DualTest(unittest.TestCase):
    def test_two_regions(self):
        # 8 less 4, 8 less 6, 8 less 0.
        self.assertEqual(ask(game(0, 2, [6, 4, 8]), dual(0, 1), costs(1), costs(0)),
                         [[2], [2], [0, 4, 2, 8], [0, 6, 4, 8]])

    def test_three_regions(self):
        # 12 less 8, 10, 7, 9, 5, 6 and 0.
        self.assertEqual(ask(game(0, 3, THREE), dual(0, 7), costs(7)), [[3], [3], [0, 4, 2, 5, 3, 7, 6, 12]])

    def test_one_region(self):
        self.assertEqual(ask(game(0, 1, [-5]), dual(0, 1), costs(1)), [[1], [1], [0, -5]])

    def test_eight_regions(self):
        # What is added up stays; if all groups cost 1, only all together are dear in the dual.
        self.assertEqual(ask_last(game(0, 8, ADDED_UP), dual(0, 1), costs(1)), [0] + ADDED_UP)
        self.assertEqual(ask_last(game(0, 8, [1] * 255), dual(0, 1), costs(1)), [0] * 255 + [1])

    def test_into_the_same_slot_and_back(self):
        self.assertEqual(ask(game(0, 3, THREE), dual(0, 0), costs(0), dual(0, 0), costs(0)),
                         [[3], [3], [0, 4, 2, 5, 3, 7, 6, 12], [3], [0] + THREE])

    def test_costs_below_0(self):
        # -9 less -4, -9 less -6.
        self.assertEqual(ask_last(game(0, 2, [-6, -4, -9]), dual(0, 1), costs(1)), [0, -5, -3, -9])
        # -2 less 4, -2 less -6.
        self.assertEqual(ask_last(game(0, 2, [-6, 4, -2]), dual(0, 1), costs(1)), [0, -6, 4, -2])

    def test_the_shares_stay(self):
        for n in range(1, 7):
            told = ask(game(0, n, uneven_costs(n, n)), dual(0, 1), share(0), share(1))
            self.assertEqual(told[2], told[3])

    def test_just_at_the_bound(self):
        for far in (TRILLION, -TRILLION):
            calls = [game(0, 2, [0, 0, far // 1000]), scale(0, 0, 1000)]
            self.assertEqual(ask_last(*calls, dual(0, 0), costs(0)), [0, far, far, far])

    def test_one_beyond_the_bound(self):
        for sign in (1, -1):
            for place in range(2):
                one_less = [0, 0, 0]
                one_less[place] = -sign
                calls = [game(0, 2, [0, 0, sign * BILLION]), scale(0, 0, 1000), game(1, 2, one_less), sums(0, 1, 0)]
                far = [0] + one_less[:2] + [sign * TRILLION]
                self.assertEqual(ask(*calls, dual(0, 0), dual(0, 2), costs(0), costs(2))[4:],
                                 [[-7], [-7], far, [-2]])

    def test_as_far_as_can_be(self):
        calls = [game(0, 2, [-BILLION, -BILLION, BILLION]), scale(0, 0, 1000)]
        self.assertEqual(ask(*calls, dual(0, 1), scale(0, 0, -1), dual(0, 1), costs(1))[2:], [[-7], [2], [-7], [-2]])


class RenameTest(unittest.TestCase):
    def test_to_one_region(self):
        self.assertEqual(ask(game(0, 3, THREE), rename(0, 1, [0]), costs(1), rename(0, 1, [1]), costs(1),
                             rename(0, 1, [2]), costs(1), costs(0)),
                         [[3], [1], [0, 6], [1], [0, 5], [1], [0, 7], [0] + THREE])

    def test_to_all_in_another_order(self):
        # Now region 0 was 1, region 1 was 2, region 2 was 0.
        self.assertEqual(ask(game(0, 3, THREE), rename(0, 1, [1, 2, 0]), costs(1)),
                         [[3], [3], [0, 5, 7, 8, 6, 9, 10, 12]])
        # Now region 0 was 2, region 1 was 1, region 2 was 0.
        self.assertEqual(ask_last(game(0, 3, THREE), rename(0, 1, [2, 1, 0]), costs(1)), [0, 7, 5, 8, 6, 10, 9, 12])

    def test_to_all_in_their_order(self):
        self.assertEqual(ask_last(game(0, 3, THREE), rename(0, 1, [0, 1, 2]), costs(1)), [0] + THREE)

    def test_to_some(self):
        self.assertEqual(ask(game(0, 3, THREE), rename(0, 1, [2, 0]), costs(1), rename(0, 1, [0, 2]), costs(1),
                             rename(0, 1, [1, 2]), costs(1)),
                         [[3], [2], [0, 7, 6, 10], [2], [0, 6, 7, 10], [2], [0, 5, 7, 8]])

    def test_into_the_same_slot(self):
        self.assertEqual(ask(game(0, 3, THREE), rename(0, 0, [2, 0]), costs(0), rename(0, 0, [1, 0]), costs(0),
                             rename(0, 0, [2]), rename(0, 0, [1]), costs(0)),
                         [[3], [2], [0, 7, 6, 10], [2], [0, 6, 7, 10], [-4], [1], [0, 7]])

    def test_one_region(self):
        self.assertEqual(ask(game(0, 1, [-5]), rename(0, 1, [0]), costs(1), rename(0, 1, [1]), rename(0, 1, [0, 0])),
                         [[1], [1], [0, -5], [-4], [-4]])

    def test_eight_regions(self):
        self.assertEqual(ask(game(0, 8, ADDED_UP), rename(0, 1, [7, 6, 5, 4, 3, 2, 1, 0]), cost(1, 1), cost(1, 2),
                             cost(1, 128), cost(1, 129), cost(1, 255), cost(1, 15)),
                         [[8], [8], [128], [64], [1], [129], [255], [240]])
        self.assertEqual(ask(game(0, 8, ADDED_UP), rename(0, 1, [7, 0, 3]), costs(1)),
                         [[8], [3], [0, 128, 1, 129, 8, 136, 9, 137]])

    def test_greatest_costs(self):
        self.assertEqual(ask_last(game(0, 2, [BILLION, -BILLION, 0]), scale(0, 0, 1000), rename(0, 0, [1, 0]),
                                  costs(0)),
                         [0, -TRILLION, TRILLION, 0])

    def test_wrong_lists(self):
        wrong = ([], [3], [-1], [0, 3], [3, 0], [0, -1], [0, 0], [0, 1, 0], [2, 2], [0, 1, 2, 0], [0, 1, 2, 3],
                 [LEAST], [MOST], [0, LEAST], [1, MOST], [0] * 1000, list(range(1000)))
        for regions in wrong:
            self.assertEqual(ask(game(0, 3, THREE), rename(0, 0, regions), rename(0, 1, regions), costs(0), costs(1)),
                             [[3], [-4], [-4], [0] + THREE, [-2]], regions)
        self.assertEqual(ask(game(0, 8, ADDED_UP), rename(0, 1, [8]), rename(0, 1, [7])), [[8], [-4], [1]])


class MergeTest(unittest.TestCase):
    def test_of_some(self):
        # 0 and 1; 0 and 2; 1 and 2.
        self.assertEqual(ask(game(0, 3, THREE), merge(0, 1, 3), costs(1), merge(0, 1, 5), costs(1), merge(0, 1, 6),
                             costs(1), costs(0)),
                         [[3], [2], [0, 9, 7, 12], [2], [0, 10, 5, 12], [2], [0, 6, 8, 12], [0] + THREE])

    def test_regions_between_them_are_numbered_anew(self):
        # 1 and 3 are one: region 1, which costs 10; region 2 stays behind it and costs 4.
        self.assertEqual(ask(game(0, 4, FOUR_ADDED_UP), merge(0, 1, 10), costs(1)),
                         [[4], [3], [0, 1, 10, 11, 4, 5, 14, 15]])
        # 0 and 3 are one; 1 and 2 stay behind it.
        self.assertEqual(ask_last(game(0, 4, FOUR_ADDED_UP), merge(0, 1, 9), costs(1)),
                         [0, 9, 2, 11, 4, 13, 6, 15])
        # 1, 2 and 3 are one.
        self.assertEqual(ask_last(game(0, 4, FOUR_ADDED_UP), merge(0, 1, 14), costs(1)), [0, 1, 14, 15])

    def test_of_one(self):
        for g in (1, 2, 4):
            self.assertEqual(ask(game(0, 3, THREE), merge(0, 1, g), costs(1)), [[3], [3], [0] + THREE])

    def test_of_all(self):
        self.assertEqual(ask(game(0, 3, THREE), merge(0, 1, 7), costs(1)), [[3], [1], [0, 12]])
        self.assertEqual(ask(game(0, 1, [-5]), merge(0, 1, 1), costs(1)), [[1], [1], [0, -5]])
        self.assertEqual(ask(game(0, 8, ADDED_UP), merge(0, 1, 255), costs(1)), [[8], [1], [0, 255]])

    def test_eight_regions(self):
        # 0 and 7 are one.
        told = ask(game(0, 8, ADDED_UP), merge(0, 1, 129), cost(1, 1), cost(1, 2), cost(1, 64), cost(1, 65),
                   cost(1, 127), cost(1, 128))
        self.assertEqual(told, [[8], [7], [129], [2], [64], [193], [255], [-5]])
        self.assertEqual(ask(game(0, 8, ADDED_UP), merge(0, 1, 254), costs(1)), [[8], [2], [0, 1, 254, 255]])

    def test_into_the_same_slot(self):
        self.assertEqual(ask(game(0, 3, THREE), merge(0, 0, 6), costs(0), merge(0, 0, 4), merge(0, 0, 3), costs(0),
                             merge(0, 0, 1), costs(0)),
                         [[3], [2], [0, 6, 8, 12], [-5], [1], [0, 12], [1], [0, 12]])

    def test_costs_below_0_and_greatest(self):
        self.assertEqual(ask_last(game(0, 3, [1, 2, -3, 4, -5, -6, -7]), merge(0, 1, 5), costs(1)), [0, -5, 2, -7])
        self.assertEqual(ask_last(game(0, 2, [BILLION, 0, -BILLION]), scale(0, 0, 1000), merge(0, 0, 3), costs(0)),
                         [0, -TRILLION])

    def test_no_group(self):
        for g in (0, 8, -1, LEAST, MOST):
            self.assertEqual(ask(game(0, 3, THREE), merge(0, 1, g), costs(1), merge(0, 0, g), costs(0)),
                             [[3], [-5], [-2], [-5], [0] + THREE])
        self.assertEqual(ask(game(0, 8, ADDED_UP), merge(0, 1, 256), merge(0, 1, 0)), [[8], [-5], [-5]])
        self.assertEqual(ask(game(0, 1, [5]), merge(0, 1, 2), merge(0, 1, 0)), [[1], [-5], [-5]])


class AllFourTest(unittest.TestCase):
    def test_peak_of_a_slot_that_hours_had_filled(self):
        for make in each_new_game(0, 1):
            told = ask(hours(0, 2, 2, [3, 1, 1, 4]), hours(1, 2, 2, [9, 9, 9, 9]), make, peak(1), peak(0))
            self.assertEqual(told[3:], [[-6], [1, 1, 1, 4, 1]], make)

    def test_peak_of_a_slot_that_was_empty(self):
        for make in each_new_game(0, 5):
            self.assertEqual(ask(hours(0, 2, 2, [3, 1, 1, 4]), make, peak(5), peak(0))[2:], [[-6], [1, 1, 1, 4, 1]])

    def test_peak_of_the_same_slot(self):
        for make in each_new_game(0, 0):
            self.assertEqual(ask(hours(0, 2, 2, [3, 1, 1, 4]), make, peak(0), hours(0, 1, 1, [7]), peak(0))[2:],
                             [[-6], [1], [0, 7, 1]], make)

    def test_games_told_by_demands(self):
        # By hours: region 0 asks 3 1, region 1 asks 1 4, both together 4 5.
        told = ask(hours(0, 2, 2, [3, 1, 1, 4]), scale(0, 1, -1), costs(1), dual(0, 1), costs(1),
                   rename(0, 1, [1, 0]), costs(1), merge(0, 1, 3), costs(1))
        self.assertEqual(told, [[2], [2], [0, -3, -4, -5], [2], [0, 1, 2, 5], [2], [0, 4, 3, 5], [1], [0, 5]])

    def test_refused_calls_leave_the_demands(self):
        for wrong in wrong_behind_the_slots(0, 1):
            told = ask(hours(0, 2, 2, [3, 1, 1, 4]), hours(1, 1, 1, [7]), wrong, peak(1), costs(1), peak(0))
            self.assertEqual(told[3:], [[0, 7, 1], [0, 7], [1, 1, 1, 4, 1]])

    def test_too_great_costs_leave_the_demands(self):
        calls = [game(0, 2, [-BILLION, 0, BILLION]), scale(0, 0, 1000), hours(1, 1, 2, [3, 4])]
        for wrong in (scale(0, 1, 2), dual(0, 1)):
            self.assertEqual(ask(*calls, wrong, peak(1), costs(1))[3:], [[-7], [1, 4, 1], [0, 4]])

    def test_beyond_the_slots(self):
        for far in (-1, 8, LEAST, MOST):
            for make in each_new_game(far, 1) + each_new_game(0, far):
                self.assertEqual(ask(game(0, 2, [6, 4, 8]), make, costs(0), costs(1)),
                                 [[2], [-1], [0, 6, 4, 8], [-2]])

    def test_first_and_last_slot(self):
        for make in each_new_game(0, 7) + each_new_game(7, 0):
            self.assertIn(ask(game(0, 2, [6, 4, 8]), game(7, 2, [1, 2, 3]), make)[2], [[1], [2]])

    def test_no_game(self):
        for make in each_new_game(1, 0) + each_new_game(1, 1):
            self.assertEqual(ask(game(0, 2, [6, 4, 8]), make, costs(0), costs(1)),
                             [[2], [-2], [0, 6, 4, 8], [-2]])

    def test_slots_in_their_order(self):
        # Slot 1 is empty, slot 8 is none.
        for make in each_new_game(1, 8) + wrong_behind_the_slots(1, 8):
            self.assertEqual(ask(game(0, 2, [6, 4, 8]), make), [[2], [-2]])
        for make in each_new_game(8, 8) + each_new_game(8, 1):
            self.assertEqual(ask(game(0, 2, [6, 4, 8]), make), [[2], [-1]])

    def test_slots_come_before_the_rest(self):
        for wrong in wrong_behind_the_slots(8, 0) + wrong_behind_the_slots(0, 8) + wrong_behind_the_slots(0, -1):
            self.assertEqual(ask(game(0, 2, [6, 4, 8]), wrong, costs(0)), [[2], [-1], [0, 6, 4, 8]])
        for wrong in wrong_behind_the_slots(1, 0):
            self.assertEqual(ask(game(0, 2, [6, 4, 8]), wrong, costs(0)), [[2], [-2], [0, 6, 4, 8]])

    def test_too_great_costs_come_last(self):
        calls = [game(0, 2, [-BILLION, 0, BILLION]), scale(0, 0, 1000)]
        self.assertEqual(ask(*calls, scale(0, 8, 2), scale(1, 0, 2), scale(0, 0, 1001), dual(0, 8), dual(1, 0),
                             dual(8, 0))[2:],
                         [[-1], [-2], [-4], [-1], [-2], [-1]])

    def test_what_they_were_made_from_may_change_afterwards(self):
        told = ask(game(0, 2, [6, 4, 8]), scale(0, 1, 2), dual(0, 2), rename(0, 3, [1, 0]), merge(0, 4, 3),
                   game(0, 2, [1, 1, 1]), costs(1), costs(2), costs(3), costs(4), costs(0))
        self.assertEqual(told[6:], [[0, 12, 8, 16], [0, 4, 2, 8], [0, 4, 6, 8], [0, 8], [0, 1, 1, 1]])

    def test_into_a_slot_with_another_number_of_regions(self):
        for make, answer in zip(each_new_game(0, 1), ([0, 6, 4, 8], [0, 4, 2, 8], [0, 6], [0, 8])):
            self.assertEqual(ask_last(game(0, 2, [6, 4, 8]), game(1, 3, THREE), make, costs(1)), answer)


if __name__ == "__main__":
    unittest.main()
