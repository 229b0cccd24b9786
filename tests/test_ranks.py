"""The calls 7 ranks, 8 accepts and 9 sure; promises 1 and 2."""

import itertools
import unittest

from tests.helper import (BIG, NOW, RANKS, accepts, act, ask, deed, done_in, house,
                          houses_of_one_kind, houses_of_two_kinds, last, plays_from, sure)


class SureTest(unittest.TestCase):
    def test_needs(self):
        calls = [house(), deed([1, 2, -1, 3]), deed(), deed(), deed()]
        for behind, so in [((), 0), ((1,), 0), ((1, 2), 1), ((2, 3), 1), ((0, 1), 0), ((0, 1, 2, 3), 1)]:
            self.assertEqual(last(*calls, sure(0, *behind)), [0, so], behind)

    def test_more_things_than_rivals(self):
        for things, so in [(0, 0), (1, 0), (2, 0), (3, 1)]:
            calls = [house(things)] + [deed((), [0], [0])] * 3
            self.assertEqual(last(*calls, sure(1)), [0, so], things)

    def test_a_thing_without_rivals(self):
        self.assertEqual(last(house(0), deed((), [0], [0]), sure(0)), [0, 0])
        self.assertEqual(last(house(1), deed((), [0], [0]), sure(0)), [0, 1])

    def test_a_deed_that_uses_nothing(self):
        calls = [house(0), deed((), (), [0]), deed((), [0], [0]), deed((), [0], [0])]
        self.assertEqual(last(*calls, sure(0)), [0, 1])

    def test_rivals_use_some_same_kind(self):
        calls = [house(1, 1, 5), deed((), [0, 1], [0] * 3), deed((), [1, 2], [0] * 3), deed((), [2], [0] * 3)]
        # Deed 0 has one rival and two things; deed 1 two and six; deed 2 one and five.
        self.assertEqual(ask(*calls, sure(0), sure(1), sure(2))[4:], [[0, 1], [0, 1], [0, 1]])
        calls[0] = house(1, 0, 2)
        self.assertEqual(ask(*calls, sure(0), sure(1), sure(2))[4:], [[0, 0], [0, 0], [0, 1]])

    def test_a_rival_that_shares_two_kinds_is_one(self):
        calls = [house(1, 1)] + [deed((), [0, 1], [0, 0])] * 2
        self.assertEqual(last(*calls, sure(0)), [0, 1])

    def test_other_kinds_do_not_count(self):
        calls = [house(0, 9), deed((), [0], [0, 0]), deed((), (), [0, 9])]
        self.assertEqual(last(*calls, sure(0, 1)), [0, 0])

    def test_gifts_of_those_behind_count(self):
        calls = [house(0), deed((), [0], [0]), deed((), [0], [0]), deed((), (), [1]), deed((), (), [1])]
        for behind, so in [((), 0), ((2,), 0), ((3,), 0), ((2, 3), 1), ((1, 2), 0)]:
            self.assertEqual(last(*calls, sure(0, *behind)), [0, so], behind)

    def test_gifts_of_the_deed_itself_count(self):
        calls = [house(0), deed((), [0], [1])]
        self.assertEqual(ask(*calls, sure(0), sure(0, 0))[2:], [[0, 0], [0, 1]])
        self.assertEqual(ask(house(), deed([0]), sure(0), sure(0, 0))[2:], [[0, 0], [0, 1]])

    def test_things_at_first_count_whatever_was_done(self):
        calls = [house(1), deed((), [0], [0]), deed((), (), [3])]
        told = ask(*calls, act(0, 0), sure(0), sure(1), RANKS, act(1), sure(0), RANKS, accepts(1, 1))
        self.assertEqual(told[4:7], [[0, 1], [0, 1], [0, 1, 1]])
        self.assertEqual(told[8:], [[0, 1], [0, 1, 1], [0, 1]])

    def test_what_is_done_is_not_behind(self):
        self.assertEqual(last(house(), deed([1]), deed(), act(1), sure(0)), [0, 0])
        self.assertEqual(last(house(), deed([1]), deed(), act(1), RANKS), [0, 2, 1])

    def test_ranges(self):
        full = [house()] + [deed()] * 16
        for d, behind in [(0, ()), (15, ()), (0, (0,)), (3, (15,)), (15, range(16))]:
            self.assertEqual(last(*full, sure(d, *behind)), [0, 1], (d, behind))
        for d, behind in [(-1, ()), (16, ()), (BIG, ()), (-BIG, ()), (0, (-1,)), (0, (16,)),
                          (0, (0, 16)), (0, (BIG,)), (0, (-BIG,)), (0, range(17)), (0, range(50))]:
            self.assertEqual(last(*full, sure(d, *behind)), [-1], (d, behind))

    def test_list_that_does_not_rise(self):
        full = [house()] + [deed()] * 16
        for behind in [(0, 0), (1, 0), (0, 2, 1), (1, 2, 2), tuple(range(15)) + (14,)]:
            self.assertEqual(last(*full, sure(0, *behind)), [-1], behind)

    def test_no_such_deed(self):
        calls = [house(), deed(), deed()]
        self.assertEqual(last(*calls, sure(2)), [-3])
        self.assertEqual(last(*calls, sure(15, 0)), [-3])
        self.assertEqual(last(*calls, sure(0, 2)), [-3])
        self.assertEqual(last(*calls, sure(0, 0, 1, 15)), [-3])
        self.assertEqual(last(house(), sure(0)), [-3])


class RanksTest(unittest.TestCase):
    def test_rounds(self):
        calls = [house(), deed([1, 2]), deed([3]), deed(), deed([2]), deed([4]), deed()]
        self.assertEqual(last(*calls, RANKS), [0, 4, 3, 1, 2, 0, 1])

    def test_those_of_the_same_round_are_not_behind(self):
        self.assertEqual(last(house(), deed(), deed([0]), deed([1]), RANKS), [0, 1, 2, 3])

    def test_as_many_rounds_as_deeds(self):
        calls = [house()] + [deed([d + 1]) for d in range(15)] + [deed()]
        self.assertEqual(last(*calls, RANKS), [0] + list(range(16, 0, -1)))

    def test_gifts_and_rivals(self):
        calls = [house(1), deed((), [0], [0]), deed((), [0], [0]), deed((), (), [1]), deed([0], (), [0])]
        self.assertEqual(last(*calls, RANKS), [0, 2, 2, 1, 3])
        calls[0] = house(0)
        self.assertEqual(last(*calls, RANKS), [0, 0, 0, 1, 0])
        calls[0] = house(2)
        self.assertEqual(last(*calls, RANKS), [0, 1, 1, 1, 2])

    def test_a_gift_does_not_help_itself(self):
        self.assertEqual(last(house(0), deed((), [0], [5]), RANKS), [0, 0])

    def test_no_deeds(self):
        self.assertEqual(last(house(1), RANKS), [0])


class AcceptsTest(unittest.TestCase):
    def test_just_as_many_numbers(self):
        calls = [house(), deed(), deed()]
        for ranks, so in [((), 0), ((1,), 0), ((1, 1), 1), ((1, 1, 1), 0)]:
            self.assertEqual(last(*calls, accepts(*ranks)), [0, so], ranks)

    def test_no_deeds(self):
        self.assertEqual(ask(house(), accepts(), accepts(0))[1:], [[0, 1], [0, 0]])

    def test_lesser_rank_alone(self):
        calls = [house(), deed([1]), deed()]
        for ranks, so in [((2, 1), 1), ((1, 1), 0), ((1, 2), 0), ((1, 0), 1), ((1000, 999), 1),
                          ((1000, 1000), 0), ((1000, 0), 1), ((0, 0), 0)]:
            self.assertEqual(last(*calls, accepts(*ranks)), [0, so], ranks)

    def test_zero_is_a_rank(self):
        self.assertEqual(last(house(), deed(), accepts(0)), [0, 1])
        self.assertEqual(last(house(), deed([0]), accepts(0)), [0, 0])

    def test_each_deed_is_to_be_sure(self):
        calls = [house(1), deed((), (), [0]), deed((), [0], [0]), deed((), [0], [0])]
        self.assertEqual(last(*calls, accepts(1, 1, 1)), [0, 0])
        self.assertEqual(last(*calls[:3], accepts(1, 1)), [0, 1])

    def test_gifts_of_lesser_rank(self):
        calls = [house(0), deed((), [0], [9]), deed((), (), [1])]
        for ranks, so in [((2, 1), 1), ((1, 1), 0), ((1, 2), 0)]:
            self.assertEqual(last(*calls, accepts(*ranks)), [0, so], ranks)

    def test_ranges(self):
        full = [house()] + [deed()] * 16
        for ranks in [[0] * 16, [1000] * 16, [0, 1000] * 8]:
            self.assertEqual(last(*full, accepts(*ranks)), [0, 1], ranks)
        for ranks in [[-1] * 16, [1001] * 16, [0] * 15 + [1001], [-1] + [0] * 15, [BIG], [-BIG], [0] * 17, [0] * 50]:
            self.assertEqual(last(*full, accepts(*ranks)), [-1], ranks)


class PromisesTest(unittest.TestCase):
    RANKS_OF_THREE = list(itertools.product(range(1, 4), repeat=3))

    def accepted(self, calls):
        """All ranks from 1 to 3 for three deeds that are accepted."""
        told = ask(*calls, *[accepts(*ranks) for ranks in self.RANKS_OF_THREE])[len(calls):]
        return [ranks for ranks, answer in zip(self.RANKS_OF_THREE, told) if answer == [0, 1]]

    def all_can_be_done_from(self, steps, ways, calls):
        """Whether from every play one comes about in which all three deeds are done."""
        ahead = {}
        for play in sorted(steps, key=lambda play: -play[1]):
            ahead[play] = play[1] == 3
            for d, kind in steps[play]:
                after = tuple(last(*calls, *ways[play], act(d, kind), NOW))
                ahead[play] = ahead[play] or ahead[after]
        return all(ahead.values())

    def check(self, houses):
        """Promises 1 and 2 on these houses; how many had accepted ranks, and how many none."""
        some = 0
        none = 0
        for calls in houses:
            told = last(*calls, RANKS)[1:]
            accepted = self.accepted(calls)
            if accepted:
                some += 1
                self.assertTrue(all(rank > 0 for rank in told), calls)
                self.assertIn(tuple(told), accepted, calls)
                steps, ways = plays_from(calls)
                self.assertTrue(self.all_can_be_done_from(steps, ways, calls), calls)
                self.assertIn([0, 1, 2], [done_in(play) for play in steps])
            else:
                none += 1
                self.assertIn(0, told, calls)
                self.assertEqual(last(*calls, accepts(*told)), [0, 0], calls)
        return some, none

    def test_houses_of_one_kind(self):
        some, none = self.check(houses_of_one_kind(17))
        self.assertGreater(some, 50)
        self.assertGreater(none, 50)

    def test_houses_of_two_kinds(self):
        some, none = self.check(houses_of_two_kinds(331))
        self.assertGreater(some, 50)
        self.assertGreater(none, 50)

    def test_a_dead_end_is_not_accepted(self):
        # The one key opens either door, so whichever is opened first leaves the other shut.
        calls = [house(1), deed((), [0], [0]), deed((), [0], [0]), deed((), (), [0])]
        self.assertEqual(self.accepted(calls), [])
        self.assertEqual(last(*calls, RANKS), [0, 0, 0, 1])


if __name__ == "__main__":
    unittest.main()
