"""settle, fewest and check."""

import itertools
import unittest

from bywords import gains_by_words, parting_by_words, transfers_by_words
from telling import (LEAST, MOST, ask, ask_last, balances, check, clear, debts, fewest, owe, owing, settle)

BILLION = 10 ** 9
TRILLION = 10 ** 12


def filled(some):
    """Ten balances, of which the first ones are told."""
    return some + [0] * (10 - len(some))


def triples(answer):
    """The transfers in an answer of settle."""
    told = [tuple(answer[place:place + 3]) for place in range(1, len(answer), 3)]
    if len(told) != answer[0]:
        raise AssertionError("not as many transfers as told")
    return told


def groups(answer):
    """The groups in an answer of fewest."""
    told = []
    at = 2
    while at < len(answer):
        told.append(answer[at + 1:at + 1 + answer[at]])
        at += 1 + answer[at]
    if len(told) != answer[1]:
        raise AssertionError("not as many groups as told")
    return told


def flat(parts):
    return [number for part in parts for number in part]


def settled(wanted, hub=0):
    """What settle and fewest answer if the houses have these balances."""
    return ask(*owing(filled(wanted), hub), settle(), fewest())[-2:]


class SettleTest(unittest.TestCase):
    def test_no_debts(self):
        self.assertEqual(ask(settle(), fewest()), [[0], [0, 0]])

    def test_balances_of_0(self):
        self.assertEqual(ask(owe(0, 1, 5), owe(1, 2, 5), owe(2, 0, 5), settle(), fewest())[3:], [[0], [0, 0]])
        self.assertEqual(ask(owe(0, 1, 5), owe(1, 0, 5), settle(), fewest())[2:], [[0], [0, 0]])

    def test_two_houses(self):
        self.assertEqual(ask(owe(0, 1, 5), settle(), fewest())[1:], [[1, 0, 1, 5], [1, 1, 2, 0, 1]])
        self.assertEqual(ask(owe(1, 0, 5), settle(), fewest())[1:], [[1, 1, 0, 5], [1, 1, 2, 0, 1]])
        self.assertEqual(ask(owe(9, 4, 5), settle(), fewest())[1:], [[1, 9, 4, 5], [1, 1, 2, 4, 9]])

    def test_two_houses_with_debts_both_ways(self):
        self.assertEqual(ask_last(owe(3, 6, 5), owe(6, 3, 12), settle()), [1, 6, 3, 7])

    def test_one_group_that_owes_first(self):
        # Sums -5, -3: 0 pays 5 to 1, 1 pays 3 to 2.
        self.assertEqual(settled([-5, 2, 3]), [[2, 0, 1, 5, 1, 2, 3], [2, 1, 3, 0, 1, 2]])

    def test_one_group_that_is_owed_first(self):
        # Sums 5, 2: 1 pays 5 to 0, 2 pays 2 to 1.
        self.assertEqual(settled([5, -3, -2]), [[2, 1, 0, 5, 2, 1, 2], [2, 1, 3, 0, 1, 2]])

    def test_sums_that_change_their_sign(self):
        # Sums -2, 5, -1: 0 pays 2 to 1, 2 pays 5 to 1, 2 pays 1 to 3.
        self.assertEqual(settled([-2, 7, -6, 1]), [[3, 0, 1, 2, 2, 1, 5, 2, 3, 1], [3, 1, 4, 0, 1, 2, 3]])

    def test_houses_between_with_balance_0(self):
        # Houses 1, 4, 8 have -5, 2, 3.
        self.assertEqual(settled([0, -5, 0, 0, 2, 0, 0, 0, 3, 0], 1),
                         [[2, 1, 4, 5, 4, 8, 3], [2, 1, 3, 1, 4, 8]])

    def test_a_house_whose_debts_come_to_0_is_in_no_group(self):
        self.assertEqual(ask(owe(0, 1, 5), owe(1, 2, 5), settle(), fewest())[2:], [[1, 0, 2, 5], [1, 1, 2, 0, 2]])

    def test_several_groups(self):
        # 0 and 3 come to 0, so do 1, 2 and 4.
        self.assertEqual(settled([-9, -1, -2, 9, 3]),
                         [[3, 0, 3, 9, 1, 2, 1, 2, 4, 3], [3, 2, 2, 0, 3, 3, 1, 2, 4]])

    def test_groups_are_told_by_their_least_house(self):
        self.assertEqual(settled([0, 4, -7, 0, 7, -4]), [[2, 5, 1, 4, 2, 4, 7], [2, 2, 2, 1, 5, 2, 2, 4]])

    def test_the_most_groups_come_before_the_order_of_the_groups(self):
        # 0 1 2 would come ahead of 0 3, but leaves 3 4 5 as one group; so there are three: 0 3, 1 4 and 2 5.
        self.assertEqual(settled([-3, 1, 2, 3, -1, -2]),
                         [[3, 0, 3, 3, 4, 1, 1, 5, 2, 2], [3, 3, 2, 0, 3, 2, 1, 4, 2, 2, 5]])
        # 0 1 2 3 and 4 5 6 are two groups; 0 4, 1 5 and 2 3 6 are three.
        self.assertEqual(settled([-6, 1, 2, 3, 6, -1, -5])[1], [4, 3, 2, 0, 4, 2, 1, 5, 3, 2, 3, 6])
        # Here 0 4 and 1 2 3 5 are no more than 0 1 2 3 and 4 5.
        self.assertEqual(settled([-6, 1, 2, 3, 6, -6])[1], [4, 2, 4, 0, 1, 2, 3, 2, 4, 5])

    def test_two_partings_of_pairs(self):
        # 0 2 and 1 3, or 0 3 and 1 2: the first groups differ in 2 and 3, and 0 2 has the least.
        self.assertEqual(settled([-1, -1, 1, 1]), [[2, 0, 2, 1, 1, 3, 1], [2, 2, 2, 0, 2, 2, 1, 3]])

    def test_the_first_group_with_the_least_house_in_which_they_differ(self):
        # 0 1 2 and 3 4, or 0 3 and 1 2 4: they differ in 1, 2 and 3; 0 1 2 has house 1.
        self.assertEqual(settled([-3, 1, 2, 3, -3]),
                         [[3, 0, 1, 3, 1, 2, 2, 4, 3, 3], [3, 2, 3, 0, 1, 2, 2, 3, 4]])

    def test_a_shorter_group_with_the_least_house_in_which_they_differ(self):
        # 0 1 and 2 3 4, or 0 2 3 and 1 4: they differ in 1, 2 and 3; 0 1 has house 1. The sums of 2 3 4 are 1 and 3.
        self.assertEqual(settled([-3, 3, 1, 2, -3]),
                         [[3, 0, 1, 3, 3, 2, 1, 4, 3, 3], [3, 2, 2, 0, 1, 3, 2, 3, 4]])

    def test_partings_that_differ_in_a_later_group(self):
        # 0 1 alike; then 2 4 and 3 5, or 2 5 and 3 4.
        self.assertEqual(settled([-5, 5, -1, -1, 1, 1]),
                         [[3, 0, 1, 5, 2, 4, 1, 3, 5, 1], [3, 3, 2, 0, 1, 2, 2, 4, 2, 3, 5]])

    def test_ten_houses_in_pairs(self):
        self.assertEqual(settled([-1, -2, -3, -4, -5, 5, 4, 3, 2, 1]),
                         [[5, 0, 9, 1, 1, 8, 2, 2, 7, 3, 3, 6, 4, 4, 5, 5],
                          [5, 5, 2, 0, 9, 2, 1, 8, 2, 2, 7, 2, 3, 6, 2, 4, 5]])

    def test_ten_alike_houses(self):
        self.assertEqual(settled([-1] * 5 + [1] * 5)[1], [5, 5, 2, 0, 5, 2, 1, 6, 2, 2, 7, 2, 3, 8, 2, 4, 9])
        self.assertEqual(settled([1, -1] * 5)[0], [5, 1, 0, 1, 3, 2, 1, 5, 4, 1, 7, 6, 1, 9, 8, 1])

    def test_ten_houses_in_one_group(self):
        # -1, -2, -4, ..., -256 and 511: the sums are -1, -3, -7, ..., -511.
        wanted = [-2 ** house for house in range(9)] + [511]
        transfers = [(house, house + 1, 2 ** (house + 1) - 1) for house in range(9)]
        self.assertEqual(settled(wanted, 9), [[9] + flat(transfers), [9, 1, 10] + list(range(10))])

    def test_ten_houses_with_several_partings(self):
        # Each group needs a house that is owed 31: of the partings into two, that with 0 1 2 3 4 comes first.
        self.assertEqual(settled([31, -1, -2, -4, -24] * 2)[1], [8, 2, 5, 0, 1, 2, 3, 4, 5, 5, 6, 7, 8, 9])
        # House 0 is owed 3 and house 1 owes 3; eight houses are owed or owe 1.
        self.assertEqual(settled([3, -3, 1, 1, 1, 1, -1, -1, -1, -1])[1],
                         [5, 5, 2, 0, 1, 2, 2, 6, 2, 3, 7, 2, 4, 8, 2, 5, 9])

    def test_greatest_amounts(self):
        calls = [owe(0, 9, BILLION)] * 190
        self.assertEqual(ask(*calls, settle(), fewest())[190:], [[1, 0, 9, 190 * BILLION], [1, 1, 2, 0, 9]])

    def test_only_balances_count(self):
        # The same balances by other debts.
        wanted = filled([-3, 1, 2, 3, -3])
        for hub in range(5):
            self.assertEqual(settled(wanted, hub), settled(wanted, 0))

    def test_nothing_changes(self):
        told = ask(owe(0, 1, 5), owe(1, 2, 3), settle(), fewest(), check([0, 1, 5, 1, 2, 3]), debts(), balances(),
                   settle())
        self.assertEqual(told[5:], [[2, 0, 1, 5, 1, 2, 3], filled([-5, 2, 3]), told[2]])

    def test_debts_told_behind_settle(self):
        self.assertEqual(ask(owe(0, 1, 5), settle(), owe(2, 1, 3), settle(), clear(), settle(), owe(4, 3, 1),
                             settle())[1::2],
                         [[1, 0, 1, 5], [2, 0, 1, 5, 2, 1, 3], [0], [1, 4, 3, 1]])


class AgainstTheWordsTest(unittest.TestCase):
    def compare(self, wanted):
        told = ask(*owing(wanted, 0), balances(), settle(), fewest())[-3:]
        self.assertEqual(told[0], wanted)
        parting = parting_by_words(wanted)
        transfers = transfers_by_words(parting, wanted)
        self.assertEqual(told[1], [len(transfers)] + flat(transfers), wanted)
        self.assertEqual(told[2], [len(transfers), len(parting)] + flat([len(group)] + group for group in parting))
        self.assertEqual(gains_by_words(triples(told[1])), wanted)
        self.assertTrue(all(n >= 1 and a != b for a, b, n in triples(told[1])))
        # No sum comes to 0 within a group: each house but the last one pays or is paid.
        self.assertEqual(told[1][0], sum(len(group) - 1 for group in groups(told[2])))
        self.assertEqual(ask_last(*owing(wanted, 0), check(flat(triples(told[1])))), [1, 0])

    def test_all_small_balances_of_five_houses(self):
        for some in itertools.product(range(-2, 3), repeat=4):
            self.compare(filled([-sum(some)] + list(some)))

    def test_seven_houses(self):
        for some in itertools.product((-2, -1, 1, 3), repeat=6):
            # Every eleventh is enough, and in no step with the last places.
            if sum(place * number for place, number in enumerate(some, 1)) % 11 == 0:
                self.compare(filled([-sum(some)] + list(some)))

    def test_eight_houses_far_apart(self):
        state = 7
        for _ in range(25):
            some = []
            for _ in range(7):
                state = (state * 1103515245 + 12345) % 2 ** 31
                some.append((state >> 8) % 9 - 4)
            self.compare([-sum(some), 0] + some[:4] + [0] + some[4:])

    def test_ten_houses(self):
        self.compare([-1, -1, -1, -2, -3, 1, 1, 1, 2, 3])
        self.compare([4, -1, -1, -2, 5, -3, -2, 6, -5, -1])


class FewestTransfersTest(unittest.TestCase):
    def fewest_by_search(self, wanted):
        """The least number of transfers, by trying ever more of them, whoever pays whom what could be of use."""
        amounts = {abs(sum(some)) for count in range(1, len(wanted) + 1)
                   for some in itertools.combinations(wanted, count)} - {0}
        pairs = [(a, b) for a in range(len(wanted)) for b in range(len(wanted)) if a != b]
        count = 0
        while True:
            for transfers in itertools.combinations([(a, b, n) for a, b in pairs for n in amounts], count):
                if gains_by_words(transfers) == filled(wanted):
                    return count
            count += 1

    def test_no_fewer_transfers(self):
        for wanted in ([], [-1, 1], [-3, 1, 2], [2, -1, -1], [-1, -1, 1, 1], [-5, 2, 3, 0], [-2, 3, -3, 2]):
            self.assertEqual(settled(wanted)[1][0], self.fewest_by_search(wanted), wanted)


class CheckTest(unittest.TestCase):
    def test_as_many(self):
        self.assertEqual(ask_last(owe(0, 1, 5), check([0, 1, 5])), [1, 0])
        # Other transfers than those told, but as many.
        self.assertEqual(ask_last(*owing(filled([-5, 2, 3]), 0), check([0, 1, 2, 0, 2, 3])), [1, 0])

    def test_more(self):
        self.assertEqual(ask_last(owe(0, 1, 5), check([0, 2, 5, 2, 1, 5])), [1, 1])
        self.assertEqual(ask_last(owe(0, 1, 5), check([0, 1, 2, 0, 1, 3])), [1, 1])
        self.assertEqual(ask_last(owe(0, 1, 5), check([0, 1, 5, 3, 4, 1, 4, 3, 1])), [1, 2])
        # Two groups ask for 2 transfers.
        self.assertEqual(ask_last(*owing(filled([-1, -1, 1, 1]), 0), check([0, 1, 1, 1, 2, 2, 2, 3, 1])), [1, 1])

    def test_not_settling(self):
        calls = [owe(0, 1, 5)]
        self.assertEqual(ask(*calls, check([0, 1, 4]), check([0, 1, 6]), check([1, 0, 5]), check([0, 2, 5]),
                             check([0, 1, 5, 2, 3, 1]), check([0, 1, 5, 0, 1, 5]), check([8, 9, 5]))[1:], [[0]] * 7)

    def test_as_many_that_do_not_settle(self):
        # All but the last house of the list is right.
        self.assertEqual(ask_last(*owing(filled([-5, 2, 3]), 0), check([0, 1, 5, 1, 2, 2])), [0])
        self.assertEqual(ask_last(*owing(filled([-5, 2, 3]), 0), check([0, 1, 5, 1, 9, 3])), [0])

    def test_empty_list(self):
        self.assertEqual(ask(check([]), owe(0, 1, 5), check([]), owe(1, 0, 5), check([]), owe(1, 0, 1), check([]),
                             clear(), check([])),
                         [[1, 0], [5], [0], [5], [1, 0], [6], [0], [0], [1, 0]])

    def test_transfers_without_debts(self):
        self.assertEqual(ask(check([0, 1, 5]), check([0, 1, 5, 1, 0, 5]), check([0, 1, 5, 1, 2, 5, 2, 0, 5])),
                         [[0], [1, 2], [1, 3]])

    def test_not_triples(self):
        for wrong in ([0], [0, 1], [0, 1, 5, 1], [0, 1, 5, 0, 1], [0, 1, 5] * 333 + [0]):
            self.assertEqual(ask(owe(0, 1, 5), check(wrong), debts()), [[5], [-4], [1, 0, 1, 5]])

    def test_houses_beyond_their_bounds(self):
        for far in (-1, 10, LEAST, MOST):
            self.assertEqual(ask(owe(0, 1, 5), check([far, 1, 5]), check([0, far, 5]), check([0, 1, 5, far, 1, 5]),
                                 check([0, 1, 5, 0, far, 5]), check([far, far, 5]), debts())[1:],
                             [[-4]] * 5 + [[1, 0, 1, 5]])

    def test_houses_that_are_not_unlike(self):
        self.assertEqual(ask(owe(0, 1, 5), check([0, 0, 5]), check([9, 9, 5]), check([0, 1, 5, 2, 2, 1]))[1:],
                         [[-4]] * 3)

    def test_first_and_last_house(self):
        self.assertEqual(ask(owe(0, 9, 5), check([0, 9, 5]), clear(), owe(9, 0, 5), check([9, 0, 5]))[1::3],
                         [[1, 0], [1, 0]])

    def test_amounts_at_their_bounds(self):
        self.assertEqual(ask(owe(0, 1, 1), check([0, 1, 1]), check([0, 1, 1, 2, 3, TRILLION, 3, 2, TRILLION]),
                             check([0, 1, TRILLION]))[1:],
                         [[1, 0], [1, 2], [0]])

    def test_amounts_beyond_their_bounds(self):
        for far in (0, -1, TRILLION + 1, LEAST, MOST):
            self.assertEqual(ask(owe(0, 1, 1), check([0, 1, far]), check([0, 1, 1, 2, 3, far]),
                                 check([2, 3, far, 3, 2, far, 0, 1, 1]), debts())[1:],
                             [[-4]] * 3 + [[1, 0, 1, 1]])

    def test_333_transfers(self):
        self.assertEqual(ask(*[owe(0, 1, 333)], check([0, 1, 1] * 333), check([0, 1, 1] * 332)), [[333], [1, 332], [0]])
        self.assertEqual(ask_last(check([0, 1, TRILLION, 1, 0, TRILLION] * 166)), [1, 332])

    def test_the_debts_themselves_settle(self):
        # Balances -3, 4, -1: two transfers are enough, here are four.
        self.assertEqual(ask_last(owe(0, 1, 5), owe(0, 2, 2), owe(2, 0, 4), owe(1, 2, 1),
                                  check([0, 1, 5, 0, 2, 2, 2, 0, 4, 1, 2, 1])), [1, 2])


if __name__ == "__main__":
    unittest.main()
