"""owe, debts, balances and clear."""

import unittest

from telling import LEAST, MOST, ask, ask_last, balances, clear, debts, fewest, game, owe, settle

BILLION = 10 ** 9
NONE = [0] * 10


class OweTest(unittest.TestCase):
    def test_debts_of_one_house_to_one_other_are_added(self):
        self.assertEqual(ask(owe(0, 1, 5), owe(0, 1, 7), owe(0, 2, 1), owe(0, 1, 1), debts()),
                         [[5], [12], [1], [13], [2, 0, 1, 13, 0, 2, 1]])

    def test_both_ways_are_two_debts(self):
        self.assertEqual(ask(owe(0, 1, 5), owe(1, 0, 3), owe(0, 1, 2), debts(), balances()),
                         [[5], [3], [7], [2, 0, 1, 7, 1, 0, 3], [-4, 4] + [0] * 8])

    def test_first_and_last_house(self):
        self.assertEqual(ask(owe(0, 9, 5), owe(9, 0, 6), debts()), [[5], [6], [2, 0, 9, 5, 9, 0, 6]])

    def test_amount_at_its_bounds(self):
        self.assertEqual(ask(owe(0, 1, 1), owe(0, 2, BILLION), owe(0, 2, BILLION), owe(0, 1, BILLION), debts()),
                         [[1], [BILLION], [2 * BILLION], [BILLION + 1], [2, 0, 1, BILLION + 1, 0, 2, 2 * BILLION]])

    def test_amounts_that_add_up_far(self):
        self.assertEqual(ask(*[owe(3, 4, BILLION)] * 198, debts(), balances())[197:],
                         [[198 * BILLION], [1, 3, 4, 198 * BILLION],
                          [0, 0, 0, -198 * BILLION, 198 * BILLION, 0, 0, 0, 0, 0]])

    def test_refused(self):
        wrong = [owe(-1, 1, 5), owe(10, 1, 5), owe(0, -1, 5), owe(0, 10, 5), owe(0, 0, 5), owe(9, 9, 5), owe(0, 1, 0),
                 owe(0, 1, -1), owe(0, 1, BILLION + 1), owe(10, 10, 5), owe(-1, -1, 0)]
        for far in (LEAST, MOST):
            wrong += [owe(far, 1, 5), owe(0, far, 5), owe(0, 1, far), owe(far, far, far)]
        for call in wrong:
            self.assertEqual(ask(call, debts(), owe(0, 1, 2), call, debts(), balances()),
                             [[-4], [0], [2], [-4], [1, 0, 1, 2], [-2, 2] + [0] * 8], call)


class DebtsTest(unittest.TestCase):
    def test_none(self):
        self.assertEqual(ask(debts(), balances()), [[0], NONE])

    def test_order_in_which_they_were_first_told(self):
        self.assertEqual(ask_last(owe(5, 2, 1), owe(2, 5, 2), owe(0, 1, 3), owe(2, 5, 4), owe(5, 2, 5), owe(1, 0, 6),
                                  owe(0, 1, 7), debts()),
                         [4, 5, 2, 6, 2, 5, 6, 0, 1, 10, 1, 0, 6])

    def test_a_refused_debt_is_not_told(self):
        self.assertEqual(ask_last(owe(5, 2, 0), owe(0, 1, 3), owe(5, 2, 1), debts()), [2, 0, 1, 3, 5, 2, 1])

    def test_all_debts_there_can_be(self):
        every = [(a, b) for a in range(10) for b in range(10) if a != b]
        calls = [owe(a, b, 10 * a + b) for a, b in reversed(every)]
        told = ask_last(*calls, debts())
        self.assertEqual(told, [90] + [number for a, b in reversed(every) for number in (a, b, 10 * a + b)])


class BalancesTest(unittest.TestCase):
    def test_owed_less_owing(self):
        # House 0 owes 5 and 2, is owed 4; house 1 is owed 5, owes 1; house 2 is owed 2 and 1, owes 4.
        self.assertEqual(ask_last(owe(0, 1, 5), owe(0, 2, 2), owe(2, 0, 4), owe(1, 2, 1), balances()),
                         [-3, 4, -1, 0, 0, 0, 0, 0, 0, 0])

    def test_last_house_is_owed(self):
        self.assertEqual(ask_last(owe(8, 9, 5), balances()), [0] * 8 + [-5, 5])

    def test_first_balance_below_0_is_no_refusal(self):
        self.assertEqual(ask_last(owe(0, 1, 4), balances()), [-4, 4] + [0] * 8)

    def test_all_ten_houses(self):
        # Each house owes the next one its own number and one more; the last one owes nobody.
        calls = [owe(house, house + 1, house + 1) for house in range(9)]
        self.assertEqual(ask_last(*calls, balances()), [-1, -1, -1, -1, -1, -1, -1, -1, -1, 9])

    def test_debts_in_a_ring(self):
        self.assertEqual(ask_last(owe(0, 1, 5), owe(1, 2, 5), owe(2, 0, 5), balances()), NONE)


class ClearTest(unittest.TestCase):
    def test_no_debts_any_more(self):
        self.assertEqual(ask(owe(0, 1, 5), owe(2, 1, 3), clear(), debts(), balances(), settle(), fewest()),
                         [[5], [3], [0], [0], NONE, [0], [0, 0]])

    def test_without_debts(self):
        self.assertEqual(ask(clear(), clear(), debts()), [[0], [0], [0]])

    def test_debts_told_anew(self):
        # They are added up from nothing, and stand in the order in which they were first told since.
        self.assertEqual(ask(owe(0, 1, 5), owe(2, 1, 3), clear(), owe(2, 1, 4), owe(3, 4, 1), owe(0, 1, 1), debts(),
                             balances()),
                         [[5], [3], [0], [4], [1], [1], [3, 2, 1, 4, 3, 4, 1, 0, 1, 1],
                          [-1, 5, -4, -1, 1, 0, 0, 0, 0, 0]])

    def test_games_stay(self):
        self.assertEqual(ask(game(0, 1, [5]), owe(0, 1, 5), clear(), [3, 0]), [[1], [5], [0], [0, 5]])

    def test_games_do_not_touch_debts(self):
        self.assertEqual(ask(owe(0, 1, 5), game(0, 1, [5]), [14, 0, 0, 2], [14, 0, 9, 2], debts()),
                         [[5], [1], [1], [-1], [1, 0, 1, 5]])


if __name__ == "__main__":
    unittest.main()
