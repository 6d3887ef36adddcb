"""What is said of the one list of calls, the one list of answers, and of refusals in general."""

import time
import unittest

from sharedhelp.regions import answers
from telling import (LEAST, MOST, alike, ask, balances, by_order, check, clear, cost, costs, dearer, debts, dividends,
                     dual, fewest, game, hours, idle, merge, owe, owing, parted, peak, potentials, rename, rounded,
                     scale, settle, share, shows, stable, sums, swing)

# One call of each kind that is answered behind SETUP, with what its numbers and its list are refused by.
SETUP = [game(0, 2, [6, 4, 8]), hours(1, 2, 2, [3, 1, 1, 4]), owe(0, 1, 5), owe(1, 2, 3)]
GOOD_CALLS = [
    (game(2, 2, [1, 2, 3]), [-1, -4], [-4, -4, -4]),
    (hours(2, 2, 2, [1, 2, 3, 4]), [-1, -4, -4], [-4, -4, -4, -4]),
    (cost(0, 3), [-1, -5], None),
    (costs(0), [-1], None),
    (share(0), [-1], None),
    (by_order(0, [1, 0]), [-1], [-4, -4]),
    (dividends(0), [-1], None),
    (potentials(0), [-1], None),
    (swing(0), [-1], None),
    (dearer(0), [-1], None),
    (stable(0, 1, [5, 3]), [-1, -4], [-4, -4]),
    (shows(0, 1, [1, 1, 2, 1]), [-1, -4], [-4, -4, -4, -4]),
    (peak(1), [-1], None),
    (sums(0, 1, 2), [-1, -1, -1], None),
    (scale(0, 2, 3), [-1, -1, -4], None),
    (dual(0, 2), [-1, -1], None),
    (rename(0, 2, [1, 0]), [-1, -1], [-4, -4]),
    (merge(0, 2, 3), [-1, -1, -5], None),
    (idle(0), [-1], None),
    (alike(0), [-1], None),
    (rounded(0), [-1], None),
    (owe(0, 1, 4), [-4, -4, -4], None),
    (debts(), [], None),
    (balances(), [], None),
    (settle(), [], None),
    (fewest(), [], None),
    (check([0, 1, 5, 1, 2, 3]), [], [-4, -4, -4, -4, -4, -4]),
    (clear(), [], None),
]
GOOD_ANSWERS = [[2], [2], [8], [0, 6, 4, 8], [5, 1, 3, 1], [4, 4], [0, 6, 4, -2], [0, 1, 6, 1, 4, 1, 9, 1],
                [5, 1, 3, 1], [0], [1], [0], [1, 1, 1, 4, 1], [2], [2], [2], [2], [1], [0], [0], [5, 3], [9],
                [2, 0, 1, 5, 1, 2, 3], [-5, 2, 3, 0, 0, 0, 0, 0, 0, 0], [2, 0, 1, 5, 1, 2, 3], [2, 1, 3, 0, 1, 2],
                [1, 0], [0]]
LOOK = [costs(0), costs(1), peak(1), costs(2), debts()]
UNTOUCHED = [[0, 6, 4, 8], [0, 3, 4, 5], [1, 1, 1, 4, 1], [-2], [2, 0, 1, 5, 1, 2, 3]]

# The calls on debts in three orders, and what they answer behind SETUP.
DEBTS_IN_ORDERS = [
    ((21, 22, 23, 24, 25, 26, 27),
     ([9], [2, 0, 1, 9, 1, 2, 3], [-9, 6, 3, 0, 0, 0, 0, 0, 0, 0], [2, 0, 1, 9, 1, 2, 3], [2, 1, 3, 0, 1, 2], [0],
      [0])),
    ((27, 26, 25, 24, 23, 22, 21), ([0], [0], [0, 0], [0], [0] * 10, [0], [4])),
    ((26, 24, 27, 23, 21, 25, 22),
     ([1, 0], [2, 0, 1, 5, 1, 2, 3], [0], [0] * 10, [4], [1, 1, 2, 0, 1], [1, 0, 1, 4])),
]


class Sealed(list):
    """A list that can be read alone."""

    def refuse(self, *args, **kwargs):
        raise AssertionError("the list is changed")

    __setitem__ = __delitem__ = __iadd__ = __imul__ = refuse
    append = clear = extend = insert = pop = remove = reverse = sort = refuse


def places(call, refused_numbers, refused_list):
    """Each place of the call that a number is handed over at, with the refusal due there."""
    told = [(1 + place, refusal) for place, refusal in enumerate(refused_numbers)]
    if refused_list is not None:
        first = 2 + len(refused_numbers)
        told += [(first + place, refusal) for place, refusal in enumerate(refused_list)]
    return told


class OneListTest(unittest.TestCase):
    def test_empty(self):
        self.assertEqual(answers([]), [])

    def test_numbers_of_the_calls(self):
        self.assertEqual([call[0] for call, _, _ in GOOD_CALLS], list(range(28)))

    def test_each_call_is_answered(self):
        for (call, _, _), answer in zip(GOOD_CALLS, GOOD_ANSWERS):
            self.assertEqual(ask(*SETUP, call)[len(SETUP):], [answer], call)

    def test_written_out(self):
        self.assertEqual(answers([0, 0, 2, 3, 6, 4, 8, 2, 0, 3, 4, 0, 5, 0, 2, 1, 0, 12, 0, 13, 0, 0, 1, 3, 1]),
                         [1, 2, 1, 8, 4, 5, 1, 3, 1, 2, 4, 4, 1, -6, 1, 2, 4, 0, 12, 8, 16])
        self.assertEqual(answers([1, 5, 1, 2, 2, 7, 9, 12, 5, 10, 5, 1, 1, 9, 11, 5, 1, 0, 9, 5, 3, 6]),
                         [1, 1, 3, 1, 9, 1, 1, 1, 1, 0, 1, 0, 1, -2])
        self.assertEqual(answers([0, 0, 2, 3, 6, 4, 8, 14, 0, 1, -2, 15, 0, 2, 16, 0, 3, 1, 1, 17, 0, 4, 3, 18, 3,
                                  19, 4, 20, 1, 3, 1, 3, 2, 3, 3, 3, 4]),
                         [1, 2, 1, 2, 1, 2, 1, 1, 1, 1, 1, 0, 1, 0, 2, -10, -6, 4, 0, -12, -8, -16, 4, 0, 4, 2, 8,
                          2, 0, 4, 2, 0, 8])
        self.assertEqual(answers([21, 3, 1, 7, 22, 23, 24, 25, 26, 3, 3, 1, 7, 26, 0, 27, 24, 26, 0]),
                         [1, 7, 4, 1, 3, 1, 7, 10, 0, 7, 0, -7, 0, 0, 0, 0, 0, 0, 4, 1, 3, 1, 7, 5, 1, 1, 2, 1, 3,
                          2, 1, 0, 1, 0, 1, 0, 1, 0, 2, 1, 0])

    def test_refused_calls_are_passed_whole(self):
        # The lists of refused calls look like calls themselves.
        self.assertEqual(ask(game(9, 1, [3, 0]), game(0, 1, [5]), by_order(0, [3, 0, 3, 0]), shows(0, 0, [3, 0, 3]),
                             stable(1, 1, [0, 0, 1, 1, 9]), hours(0, 1, 1, [0, 0, 1, 1, 9]), costs(0)),
                         [[-1], [1], [-4], [-4], [-2], [-4], [0, 5]])
        self.assertEqual(ask(game(0, 1, [5]), rename(0, 0, [27, 27]), check([27, 27, 27]), owe(27, 27, 27),
                             rename(9, 0, []), check([]), costs(0)),
                         [[1], [-4], [-4], [-4], [-1], [1, 0], [0, 5]])

    def test_every_call_in_several_orders(self):
        # The calls on games read slots 0 and 1 and fill slot 2: they answer the same in every order.
        for step in (1, 20, 8, 5):
            for numbers, debt_answers in DEBTS_IN_ORDERS:
                calls = list(SETUP)
                expected = [[2], [2], [5], [3]]
                for turn in range(21):
                    number = turn * step % 21
                    calls.append(GOOD_CALLS[number][0])
                    expected.append(GOOD_ANSWERS[number])
                    if turn % 3 == 2:
                        calls.append(GOOD_CALLS[numbers[turn // 3]][0])
                        expected.append(list(debt_answers[turn // 3]))
                self.assertEqual(sorted(call[0] for call in calls[len(SETUP):]), list(range(28)))
                self.assertEqual(ask(*calls), expected)

    def test_lists_of_1000_numbers(self):
        full = [7] * 1000
        self.assertEqual(ask(game(0, 8, full), game(0, 1, [5]), hours(0, 8, 24, full), by_order(0, full),
                             stable(0, 1, full), shows(0, 1, full), rename(0, 0, full), check(full), costs(0)),
                         [[-4], [1], [-4], [-4], [-4], [-4], [-4], [-4], [0, 5]])

    def test_200_calls(self):
        calls = [game(0, 1, [1])]
        expected = [[1]]
        for turn in range(199):
            calls.append(sums(0, 0, 1) if turn % 2 == 0 else costs(turn % 3))
            expected.append([1] if turn % 2 == 0 else ([0, 1], [0, 2], [-2])[turn % 3])
        self.assertEqual(len(calls), 200)
        self.assertEqual(ask(*calls), expected)

    def test_200_long_answers(self):
        calls = [game(0, 8, list(range(1, 256)))] + [potentials(0)] * 199
        expected = [number for group in range(256) for number in (group, 1)]
        self.assertEqual(ask(*calls), [[8]] + [expected] * 199)

    def test_200_calls_with_the_longest_settling(self):
        for wanted in ([-2 ** house for house in range(9)] + [511], [-1] * 5 + [1] * 5):
            calls = owing(wanted, 9)
            told = ask(*calls, settle())[-1]
            asked = [settle(), fewest(), check(told[1:])]
            calls += [asked[turn % 3] for turn in range(191)]
            self.assertEqual(len(calls), 200)
            start = time.perf_counter()
            answer = ask(*calls)
            self.assertLess(time.perf_counter() - start, 10)
            self.assertEqual(answer[9::3], [told] * 64)
            self.assertEqual(answer[11::3], [[1, 0]] * 63)

    def test_200_calls_on_eight_regions(self):
        for call in (share(0), potentials(0), dearer(0), scale(0, 1, 1), dual(0, 1), merge(0, 1, 128), idle(0),
                     rename(0, 1, [7, 6, 5, 4, 3, 2, 1, 0]), alike(0), rounded(0)):
            start = time.perf_counter()
            answer = ask(game(0, 8, [1] * 255), *[call] * 199)
            self.assertLess(time.perf_counter() - start, 10)
            self.assertEqual(answer[1:], [answer[1]] * 199)

    def test_16000_numbers(self):
        call = hours(0, 8, 24, [1] * 192)
        calls = [call] * 81 + [game(0, 1, [5])] + [costs(0)] * 9
        line = [number for one in calls for number in one]
        self.assertLessEqual(len(line), 16000)
        self.assertEqual(parted(answers(line)), [[8]] * 81 + [[1]] + [[0, 5]] * 9)

    def test_all_slots(self):
        fill = [game(slot, 1, [slot + 10]) for slot in range(8)]
        self.assertEqual(ask(*[costs(slot) for slot in range(8)], *fill, *[costs(slot) for slot in range(8)]),
                         [[-2]] * 8 + [[1]] * 8 + [[0, slot + 10] for slot in range(8)])


class KeptApartTest(unittest.TestCase):
    def setUp(self):
        calls = SETUP + [call for call, _, _ in GOOD_CALLS] + LOOK
        self.line = [number for call in calls for number in call]

    def test_list_stays_the_same(self):
        before = list(self.line)
        answers(self.line)
        self.assertEqual(self.line, before)

    def test_list_is_not_changed_for_a_while_either(self):
        self.assertEqual(answers(Sealed(self.line)), answers(self.line))

    def test_twice_the_same(self):
        first = answers(self.line)
        kept = list(first)
        self.assertEqual(answers(self.line), kept)
        self.assertEqual(first, kept)

    def test_answer_may_be_changed(self):
        first = answers(self.line)
        kept = list(first)
        first.clear()
        self.assertEqual(answers(self.line), kept)

    def test_nothing_is_kept(self):
        answers(self.line)
        self.assertEqual(ask(costs(0), costs(1), costs(2)), [[-2]] * 3)

    def test_no_debt_is_kept(self):
        answers([number for call in SETUP for number in call])
        self.assertEqual(ask(debts(), balances(), settle(), owe(0, 1, 1)), [[0], [0] * 10, [0], [1]])

    def test_whole_numbers_and_a_list(self):
        told = answers(self.line)
        self.assertIs(type(told), list)
        self.assertEqual({type(number) for number in told}, {int})


class RefusalTest(unittest.TestCase):
    def test_greatest_and_least_numbers_in_every_place(self):
        for call, refused_numbers, refused_list in GOOD_CALLS:
            for place, refusal in places(call, refused_numbers, refused_list):
                for far in (LEAST, MOST):
                    changed = list(call)
                    changed[place] = far
                    self.assertEqual(ask(*SETUP, changed, *LOOK)[len(SETUP):], [[refusal]] + UNTOUCHED,
                                     (call[0], place))

    def test_greatest_and_least_numbers_in_all_places_at_once(self):
        for call, refused_numbers, refused_list in GOOD_CALLS:
            refused = places(call, refused_numbers, refused_list)
            for far in (LEAST, MOST):
                changed = list(call)
                for place, _ in refused:
                    changed[place] = far
                if refused:
                    # What is due at the first place is due first.
                    self.assertEqual(ask(*SETUP, changed, *LOOK)[len(SETUP):], [[refused[0][1]]] + UNTOUCHED, call[0])

    def test_empty_slot_comes_before_the_rest(self):
        # In each of these the first slot is empty and all else is wrong.
        for call in (cost(3, LEAST), by_order(3, [MOST]), stable(3, 0, [MOST]), shows(3, 0, [MOST]), peak(3),
                     sums(3, 9, 9), scale(3, 9, MOST), dual(3, 9), rename(3, 9, []), merge(3, 9, 0), idle(3),
                     alike(3), rounded(3)):
            self.assertEqual(ask(*SETUP, call, *LOOK)[len(SETUP):], [[-2]] + UNTOUCHED, call[0])

    def test_slot_to_be_filled_needs_no_game(self):
        self.assertEqual(ask(game(3, 1, [1]), hours(4, 1, 1, [1]), sums(3, 4, 5)), [[1], [1], [1]])
        self.assertEqual(ask(game(3, 1, [1]), scale(3, 4, 1), dual(3, 5), rename(3, 6, [0]), merge(3, 7, 1)), [[1]] * 5)

    def test_answers_below_0_are_no_refusals(self):
        self.assertEqual(ask(game(0, 1, [-4]), cost(0, 1), by_order(0, [0]), share(0), swing(0), potentials(0),
                             dividends(0), sums(0, 0, 0), cost(0, 1), rounded(0), owe(0, 1, 4), balances()),
                         [[1], [-4], [-4], [-4, 1], [-4, 1], [0, 1, -4, 1], [0, -4], [1], [-8], [-8], [4],
                          [-4, 4, 0, 0, 0, 0, 0, 0, 0, 0]])


if __name__ == "__main__":
    unittest.main()
