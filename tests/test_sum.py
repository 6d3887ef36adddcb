"""sum, and the bound of the costs that a sum may reach."""

import unittest

from telling import LEAST, MOST, ask, ask_last, cost, costs, game, hours, peak, share, sums

BILLION = 10 ** 9
TRILLION = 10 ** 12


def thousandfold(slot, spare):
    """Sums that make the slot's game 1000 times as dear: three times 5-fold, three times doubled."""
    calls = []
    for _ in range(3):
        calls += [sums(slot, slot, spare), sums(spare, spare, spare), sums(slot, spare, slot)]
    return calls + [sums(slot, slot, slot)] * 3


class SumTest(unittest.TestCase):
    def test_sums_group_by_group(self):
        self.assertEqual(ask(game(0, 2, [6, 4, 8]), game(1, 2, [1, -4, 100]), sums(0, 1, 2), costs(2), costs(0),
                             costs(1)),
                         [[2], [2], [2], [0, 7, 0, 108], [0, 6, 4, 8], [0, 1, -4, 100]])

    def test_one_region(self):
        self.assertEqual(ask(game(0, 1, [5]), game(7, 1, [6]), sums(7, 0, 3), costs(3)), [[1], [1], [1], [0, 11]])

    def test_eight_regions(self):
        told = list(range(1, 256))
        self.assertEqual(ask(game(0, 8, told), game(1, 8, [1000] * 255), sums(0, 1, 7), costs(7)),
                         [[8], [8], [8], [0] + [number + 1000 for number in told]])

    def test_into_a(self):
        self.assertEqual(ask(game(0, 2, [6, 4, 8]), game(1, 2, [1, 2, 3]), sums(0, 1, 0), costs(0), costs(1)),
                         [[2], [2], [2], [0, 7, 6, 11], [0, 1, 2, 3]])

    def test_into_b(self):
        self.assertEqual(ask(game(0, 2, [6, 4, 8]), game(1, 2, [1, 2, 3]), sums(0, 1, 1), costs(0), costs(1)),
                         [[2], [2], [2], [0, 6, 4, 8], [0, 7, 6, 11]])

    def test_with_itself_into_itself(self):
        self.assertEqual(ask(game(0, 2, [6, 4, 8]), sums(0, 0, 0), costs(0)), [[2], [2], [0, 12, 8, 16]])

    def test_into_a_slot_with_another_number_of_regions(self):
        self.assertEqual(ask(game(0, 2, [6, 4, 8]), game(1, 1, [9]), sums(0, 0, 1), costs(1)),
                         [[2], [1], [2], [0, 12, 8, 16]])

    def test_what_was_summed_may_change_afterwards(self):
        self.assertEqual(ask(game(0, 1, [5]), sums(0, 0, 1), game(0, 1, [7]), costs(1), costs(0)),
                         [[1], [1], [1], [0, 10], [0, 7]])

    def test_sums_of_games_told_by_demands_are_sums_of_costs(self):
        # Hour by hour both would ask 4 4; their costs are 3 and 3.
        self.assertEqual(ask(hours(0, 1, 2, [3, 1]), hours(1, 1, 2, [1, 3]), sums(0, 1, 2), costs(2), share(2)),
                         [[1], [1], [1], [0, 6], [6, 1]])


class SumRefusalTest(unittest.TestCase):
    def test_unlike_games(self):
        self.assertEqual(ask(game(0, 2, [6, 4, 8]), game(1, 1, [9]), sums(0, 1, 0), sums(1, 0, 0), sums(0, 1, 2),
                             costs(0), costs(1), costs(2)),
                         [[2], [1], [-3], [-3], [-3], [0, 6, 4, 8], [0, 9], [-2]])

    def test_first_and_last_slot(self):
        self.assertEqual(ask(game(0, 1, [5]), game(7, 1, [6]), sums(0, 7, 7), sums(7, 0, 0), costs(0), costs(7)),
                         [[1], [1], [1], [1], [0, 16], [0, 11]])

    def test_beyond_the_slots(self):
        for far in (-1, 8, LEAST, MOST):
            self.assertEqual(ask(game(0, 1, [5]), sums(far, 0, 0), sums(0, far, 0), sums(0, 0, far), costs(0)),
                             [[1], [-1], [-1], [-1], [0, 5]])

    def test_no_game(self):
        self.assertEqual(ask(game(0, 1, [5]), sums(1, 0, 0), sums(0, 1, 0), sums(1, 1, 1), costs(1), sums(0, 0, 1)),
                         [[1], [-2], [-2], [-2], [-2], [1]])

    def test_slot_by_slot(self):
        # Slot 1 is empty: what is due at a comes before what is due at b, and `to` comes behind both.
        self.assertEqual(ask(game(0, 1, [5]), sums(1, 8, 8), sums(8, 1, 8), sums(0, 1, 8), sums(0, 8, 8),
                             sums(1, 0, 8), sums(0, 0, 8)),
                         [[1], [-2], [-1], [-2], [-1], [-2], [-1]])

    def test_slots_come_before_unlike_games(self):
        self.assertEqual(ask(game(0, 1, [5]), game(1, 2, [1, 2, 3]), sums(0, 1, 8), sums(0, 1, -1), sums(0, 1, 2)),
                         [[1], [2], [-1], [-1], [-3]])


class BoundTest(unittest.TestCase):
    def test_just_at_the_bound(self):
        for sign in (1, -1):
            calls = [game(0, 1, [sign * BILLION])] + thousandfold(0, 1)
            told = ask(*calls, costs(0), game(1, 1, [0]), sums(0, 1, 0), costs(0))
            self.assertEqual(told[:-4], [[1]] * 13)
            self.assertEqual(told[-4:], [[0, sign * TRILLION], [1], [1], [0, sign * TRILLION]])

    def test_one_beyond_the_bound(self):
        for sign in (1, -1):
            calls = [game(0, 1, [sign * BILLION])] + thousandfold(0, 1)
            told = ask(*calls, game(1, 1, [sign]), sums(0, 1, 0), sums(1, 0, 1), sums(0, 1, 2), costs(0), costs(1),
                       costs(2))
            self.assertEqual(told[-7:], [[1], [-7], [-7], [-7], [0, sign * TRILLION], [0, sign], [-2]])

    def test_back_within_the_bound(self):
        calls = [game(0, 1, [BILLION])] + thousandfold(0, 1)
        told = ask(*calls, game(1, 1, [-1]), game(2, 1, [1]), sums(0, 1, 0), sums(0, 2, 0), sums(0, 2, 0), costs(0))
        self.assertEqual(told[-4:], [[1], [1], [-7], [0, TRILLION]])

    def test_far_beyond_the_bound(self):
        for sign in (1, -1):
            calls = [game(0, 1, [sign * BILLION])] + [sums(0, 0, 0)] * 12
            told = ask(*calls, costs(0))
            # 2^9 times 10^9 is within the bound, twice that is not.
            self.assertEqual(told, [[1]] * 10 + [[-7]] * 3 + [[0, sign * 512 * BILLION]])

    def test_one_cost_of_many(self):
        for place in range(3):
            for sign in (1, -1):
                told = [0, 0, 0]
                told[place] = sign * BILLION
                calls = [game(0, 2, told)] + thousandfold(0, 1)
                told[place] = sign
                answer = ask(*calls, game(1, 2, told), sums(0, 1, 2), costs(2), cost(0, place + 1))
                self.assertEqual(answer[-3:], [[-7], [-2], [sign * TRILLION]])

    def test_unlike_signs(self):
        calls = [game(0, 2, [BILLION, -BILLION, 0])] + thousandfold(0, 1)
        told = ask(*calls, game(1, 2, [-1, 1, BILLION]), sums(0, 1, 2), costs(2), game(1, 2, [-1, -1, 0]),
                   sums(0, 1, 3), costs(3))
        self.assertEqual(told[-5:], [[2], [0, TRILLION - 1, 1 - TRILLION, BILLION], [2], [-7], [-2]])

    def test_all_groups_of_eight_regions(self):
        calls = [game(0, 8, [BILLION] * 255)] + thousandfold(0, 1)
        told = ask(*calls, share(0), sums(0, 0, 0), costs(0))
        self.assertEqual(told[-3:], [[TRILLION // 8, 1] * 8, [-7], [0] + [TRILLION] * 255])

    def test_the_slot_keeps_its_demands(self):
        calls = [game(0, 1, [BILLION])] + thousandfold(0, 1)
        self.assertEqual(ask_last(*calls, hours(1, 1, 2, [3, 4]), sums(0, 1, 1), peak(1)), [1, 4, 1])
        self.assertEqual(ask(*calls, hours(1, 1, 2, [3, 4]), sums(0, 1, 1))[-1], [-7])

    def test_refusals_that_come_before(self):
        calls = [game(0, 1, [BILLION])] + thousandfold(0, 1)
        self.assertEqual(ask(*calls, sums(0, 0, 8), sums(0, 2, 0), sums(0, 0, 0))[-3:], [[-1], [-2], [-7]])
        self.assertEqual(ask(*calls, game(1, 2, [1, 1, 1]), sums(0, 1, 0))[-1:], [[-3]])


if __name__ == "__main__":
    unittest.main()
