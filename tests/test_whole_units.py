"""idle, alike and round."""

import unittest

from bywords import rounded_by_words, uneven_costs
from telling import (LEAST, MOST, alike, ask, ask_last, costs, dual, game, hours, idle, merge, rename, rounded, scale,
                     share)

BILLION = 10 ** 9
TRILLION = 10 ** 12

THREE = [6, 5, 9, 7, 10, 8, 12]
ONE_FOR_ALL = [1] * 255
ADDED_UP = list(range(1, 256))


class IdleTest(unittest.TestCase):
    def test_one_of_two(self):
        self.assertEqual(ask_last(game(0, 2, [3, 0, 3]), idle(0)), [1, 1])
        self.assertEqual(ask_last(game(0, 2, [0, 3, 3]), idle(0)), [1, 0])

    def test_none(self):
        self.assertEqual(ask_last(game(0, 2, [6, 4, 8]), idle(0)), [0])
        self.assertEqual(ask_last(game(0, 3, THREE), idle(0)), [0])

    def test_all(self):
        self.assertEqual(ask_last(game(0, 3, [0] * 7), idle(0)), [3, 0, 1, 2])
        self.assertEqual(ask_last(game(0, 8, [0] * 255), idle(0)), [8, 0, 1, 2, 3, 4, 5, 6, 7])

    def test_0_to_nobody_but_not_to_every_group(self):
        self.assertEqual(ask_last(game(0, 2, [0, 0, 1]), idle(0)), [0])
        # Region 1 adds 0 to nobody, to region 0 and to region 2, but 1 to both.
        self.assertEqual(ask_last(game(0, 3, [2, 0, 2, 3, 5, 3, 6]), idle(0)), [0])

    def test_0_to_every_group_but_nobody(self):
        # Whoever is there costs 1.
        self.assertEqual(ask_last(game(0, 8, ONE_FOR_ALL), idle(0)), [0])

    def test_first_and_last_of_three(self):
        # Only region 1 costs something, and that is below 0.
        self.assertEqual(ask_last(game(0, 3, [0, -4, -4, 0, 0, -4, -4]), idle(0)), [2, 0, 2])

    def test_one_region(self):
        self.assertEqual(ask_last(game(0, 1, [0]), idle(0)), [1, 0])
        self.assertEqual(ask_last(game(0, 1, [-1]), idle(0)), [0])

    def test_eight_regions(self):
        # A group costs 1 for region 0, and 8 for region 3.
        self.assertEqual(ask_last(game(0, 8, [group & 9 for group in range(1, 256)]), idle(0)), [6, 1, 2, 4, 5, 6, 7])

    def test_games_made_from_games(self):
        self.assertEqual(ask(game(0, 2, [3, 0, 3]), scale(0, 1, 0), idle(1), rename(0, 1, [1, 0]), idle(1),
                             merge(0, 1, 3), idle(1), dual(0, 1), idle(1), hours(1, 2, 1, [0, 5]), idle(1))[2::2],
                         [[2, 0, 1], [1, 0], [0], [1, 1], [1, 0]])


class AlikeTest(unittest.TestCase):
    def test_two_regions(self):
        self.assertEqual(ask_last(game(0, 2, [5, 5, 8]), alike(0)), [1, 0, 1])
        self.assertEqual(ask_last(game(0, 2, [6, 4, 8]), alike(0)), [0])

    def test_one_region(self):
        self.assertEqual(ask_last(game(0, 1, [5]), alike(0)), [0])

    def test_one_pair_of_three(self):
        # Regions 0 and 2 cost 4 each, alone and with region 1, which costs 1.
        self.assertEqual(ask_last(game(0, 3, [4, 1, 5, 4, 8, 5, 9]), alike(0)), [1, 0, 2])
        # Regions 1 and 2.
        self.assertEqual(ask_last(game(0, 3, [1, 4, 5, 4, 5, 8, 9]), alike(0)), [1, 1, 2])

    def test_alike_to_nobody_but_not_to_every_group(self):
        # Regions 0 and 1 cost 5 each, but 7 and 8 with region 2, which costs 3.
        self.assertEqual(ask_last(game(0, 3, [5, 5, 9, 3, 7, 8, 10]), alike(0)), [0])

    def test_alike_to_a_group_but_not_to_nobody(self):
        self.assertEqual(ask_last(game(0, 3, [5, 6, 9, 3, 7, 7, 10]), alike(0)), [0])

    def test_what_both_together_cost_is_not_asked(self):
        self.assertEqual(ask_last(game(0, 2, [5, 5, -100]), alike(0)), [1, 0, 1])

    def test_two_pairs(self):
        # Regions 0 and 3 cost 1, regions 1 and 2 cost 2.
        each = [1, 2, 2, 1]
        told = [sum(each[region] for region in range(4) if group >> region & 1) for group in range(1, 16)]
        self.assertEqual(ask_last(game(0, 4, told), alike(0)), [2, 0, 3, 1, 2])

    def test_all_pairs_in_their_order(self):
        self.assertEqual(ask_last(game(0, 3, [1] * 7), alike(0)), [3, 0, 1, 0, 2, 1, 2])
        self.assertEqual(ask_last(game(0, 4, [-7] * 15), alike(0)), [6, 0, 1, 0, 2, 0, 3, 1, 2, 1, 3, 2, 3])

    def test_eight_regions(self):
        every = [number for i in range(8) for j in range(i + 1, 8) for number in (i, j)]
        self.assertEqual(ask_last(game(0, 8, ONE_FOR_ALL), alike(0)), [28] + every)
        self.assertEqual(ask_last(game(0, 8, ADDED_UP), alike(0)), [0])

    def test_idle_regions_are_alike(self):
        self.assertEqual(ask_last(game(0, 3, [0, -4, -4, 0, 0, -4, -4]), alike(0)), [1, 0, 2])


class RoundTest(unittest.TestCase):
    def test_whole_shares(self):
        self.assertEqual(ask_last(game(0, 2, [6, 4, 8]), rounded(0)), [5, 3])
        self.assertEqual(ask_last(game(0, 8, ADDED_UP), rounded(0)), [1, 2, 4, 8, 16, 32, 64, 128])

    def test_equal_rests(self):
        # The shares are 9/2, 3, 9/2: one is wanting, and region 0 has the less number.
        self.assertEqual(ask_last(game(0, 3, THREE), rounded(0)), [5, 3, 4])
        self.assertEqual(ask_last(game(0, 8, ONE_FOR_ALL), rounded(0)), [1, 0, 0, 0, 0, 0, 0, 0])
        # 5/8 each: five are wanting.
        self.assertEqual(ask_last(game(0, 8, [5] * 255), rounded(0)), [1, 1, 1, 1, 1, 0, 0, 0])

    def test_greatest_rests(self):
        # 1/3, 5/6, 5/6: two are wanting.
        self.assertEqual(ask_last(game(0, 3, [0, 0, 0, 0, 0, 1, 2]), rounded(0)), [0, 1, 1])
        # 5/6, 1/3, 5/6.
        self.assertEqual(ask_last(game(0, 3, [0, 0, 0, 0, 1, 0, 2]), rounded(0)), [1, 0, 1])
        # Regions 0 and 1 add 1/2 more: 1/3 + 3/2, 1/3 + 1/2, 1/3 come to 3; 1 + 0 + 0 want two.
        self.assertEqual(ask_last(game(0, 3, [1, 0, 2, 0, 1, 0, 3]), rounded(0)), [2, 1, 0])

    def test_rests_not_shares_are_compared(self):
        # Region 0's share is 10 + 1/3, the others' are 5/6; two are wanting.
        self.assertEqual(ask_last(game(0, 3, [10, 0, 10, 0, 10, 1, 12]), rounded(0)), [10, 1, 1])

    def test_below_0(self):
        # -11/2 and -7/2 are rounded down to -6 and -4; one is wanting.
        self.assertEqual(ask_last(game(0, 2, [-6, -4, -9]), rounded(0)), [-5, -4])
        # -4/3 each, down to -2 each; two are wanting.
        self.assertEqual(ask_last(game(0, 3, [0] * 6 + [-4]), rounded(0)), [-1, -1, -2])
        self.assertEqual(ask_last(game(0, 8, [-1] * 255), rounded(0)), [0, 0, 0, 0, 0, 0, 0, -1])

    def test_below_0_and_above(self):
        # -5/2 and 1/2: down to -3 and 0, and the rests are equal.
        self.assertEqual(ask_last(game(0, 2, [-3, 0, -2]), rounded(0)), [-2, 0])
        # -1/3, 1/6, 1/6: down to -1, 0, 0; region 0 has the greatest rest, 2/3.
        self.assertEqual(ask_last(game(0, 3, [0, 0, 0, 0, 0, 1, 0]), rounded(0)), [0, 0, 0])

    def test_one_region(self):
        self.assertEqual(ask_last(game(0, 1, [7]), rounded(0)), [7])
        self.assertEqual(ask_last(game(0, 1, [-4]), rounded(0)), [-4])
        self.assertEqual(ask_last(game(0, 1, [0]), rounded(0)), [0])

    def test_greatest_costs(self):
        for far in (TRILLION, -TRILLION):
            self.assertEqual(ask_last(game(0, 8, [far // 1000] * 255), scale(0, 0, 1000), rounded(0)), [far // 8] * 8)
        # 10^12 / 3 is 333333333333 and 1/3.
        third = TRILLION // 3
        self.assertEqual(ask_last(game(0, 3, [BILLION] * 7), scale(0, 0, 1000), rounded(0)), [third + 1, third, third])
        self.assertEqual(ask_last(game(0, 3, [-BILLION] * 7), scale(0, 0, 1000), rounded(0)),
                         [-third, -third, -third - 1])

    def test_by_the_words(self):
        for n in range(1, 6):
            for seed in range(12):
                told = uneven_costs(n, 31 * n + seed)
                self.assertEqual(ask_last(game(0, n, told), rounded(0)), rounded_by_words(n, told))
                # Small costs make many equal rests.
                told = [number % 4 - 2 for number in told]
                self.assertEqual(ask_last(game(0, n, told), rounded(0)), rounded_by_words(n, told))

    def test_they_come_to_the_cost_of_all(self):
        for n in range(1, 9):
            for seed in range(6):
                told = uneven_costs(n, 17 * n + seed)
                answer = ask(game(0, n, told), rounded(0), share(0))
                self.assertEqual(sum(answer[1]), told[-1])
                for region in range(n):
                    down = answer[2][2 * region] // answer[2][2 * region + 1]
                    self.assertIn(answer[1][region] - down, (0, 1))

    def test_the_costs_stay(self):
        self.assertEqual(ask_last(game(0, 3, THREE), rounded(0), idle(0), alike(0), costs(0)), [0] + THREE)


class RefusalTest(unittest.TestCase):
    def test_slots(self):
        for call in (idle, alike, rounded):
            self.assertEqual(ask(game(0, 1, [1]), game(7, 1, [1]), call(-1), call(8), call(LEAST), call(MOST), call(1),
                                 call(6)),
                             [[1], [1], [-1], [-1], [-1], [-1], [-2], [-2]])


if __name__ == "__main__":
    unittest.main()
