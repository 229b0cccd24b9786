"""The calls 2 act, 3 again, 4 now, 5 can and 6 closure; promise 3."""

import itertools
import unittest

from tests.helper import (AGAIN, BIG, CAN, CLOSURE, NOW, act, ask, deed, done_in, every, house,
                          last, plays_from)


class ActTest(unittest.TestCase):
    def test_uses_up_and_gives(self):
        calls = [house(2, 1), deed((), [0, 1], [3, 0]), deed((), [0, 1], [0, 9])]
        told = ask(*calls, act(1, 0), NOW, act(0, 1), NOW)
        self.assertEqual(told[3:], [[0, 0], [0, 1, 1, 1, 10], [0, 1], [0, 2, 0, 1, 4, 9]])

    def test_the_last_thing_is_used_up(self):
        told = ask(house(1), deed((), [0], [0]), act(0, 0), NOW)
        self.assertEqual(told[2:], [[0, 1], [0, 1, 0, 0]])

    def test_a_thing_is_needed_before_gifts_come(self):
        told = ask(house(0), deed((), [0], [5]), act(0, 0), NOW)
        self.assertEqual(told[2:], [[-8], [0, 0, 0]])

    def test_gift_can_be_used(self):
        told = ask(house(0), deed((), [0], [0]), deed((), (), [1]), act(0, 0), act(1), act(0, 0), NOW)
        self.assertEqual(told[3:], [[-8], [0, 0], [0, 1], [0, 2, 0, 1, 0]])

    def test_end_stays_done(self):
        told = ask(house(), deed([1]), deed(), deed(), act(1), act(0), act(2))
        self.assertEqual(told[4:], [[0, 0], [0, 1], [0, 1]])

    def test_deed_that_is_done(self):
        self.assertEqual(last(house(), deed(), act(0), act(0)), [-8])
        self.assertEqual(last(house(9), deed((), [0], [0]), act(0, 0), act(0, 0)), [-8])

    def test_needs_that_are_not_met(self):
        self.assertEqual(last(house(), deed([1]), deed(), act(0)), [-8])

    def test_kind_that_there_is_nothing_of(self):
        calls = [house(0, 1), deed((), [0, 1], [0, 0])]
        self.assertEqual(last(*calls, act(0, 0)), [-8])
        self.assertEqual(last(*calls, act(0, 1)), [0, 1])

    def test_kind_that_is_not_used(self):
        calls = [house(1, 1), deed((), [0], [0, 0])]
        self.assertEqual(last(*calls, act(0, 1)), [-8])
        self.assertEqual(last(*calls, act(0, -1)), [-8])

    def test_deed_that_uses_nothing(self):
        calls = [house(1), deed((), (), [0])]
        self.assertEqual(last(*calls, act(0, -1)), [0, 1])
        self.assertEqual(last(*calls, act(0, 0)), [-8])
        self.assertEqual(last(*calls, act(0, 4)), [-8])

    def test_kind_that_there_is_not(self):
        self.assertEqual(last(house(1), deed((), [0], [0]), act(0, 4)), [-8])
        self.assertEqual(last(house(), deed(), act(0, 0)), [-8])

    def test_ranges(self):
        full = [house(1, 1, 1, 1, 1)] + [deed((), [0, 1, 2, 3, 4], [0] * 5)] * 16
        self.assertEqual(last(*full, act(0, 0)), [0, 1])
        self.assertEqual(last(*full, act(15, 4)), [0, 0])
        for d, kind in [(-1, 0), (16, 0), (0, -2), (0, 5), (BIG, 0), (-BIG, 0), (0, BIG), (0, -BIG)]:
            self.assertEqual(last(*full, act(d, kind)), [-1], (d, kind))

    def test_no_such_deed(self):
        self.assertEqual(last(house(), act(0)), [-3])
        self.assertEqual(last(house(), deed(), act(1)), [-3])
        self.assertEqual(last(house(), deed(), act(15)), [-3])


class AgainAndNowTest(unittest.TestCase):
    def test_again(self):
        calls = [house(2, 0), deed((), [0], [0, 4]), deed((), [1], [0, 0])]
        told = ask(*calls, act(0, 0), act(1, 1), NOW, AGAIN, NOW, CAN, act(0, 0), NOW)
        self.assertEqual(told[5:], [[0, 2, 0, 1, 1, 3], [0], [0, 0, 2, 0], [0, 0, 0], [0, 1], [0, 1, 0, 1, 4]])

    def test_again_with_nothing_done(self):
        self.assertEqual(ask(house(3), AGAIN, NOW), [[0], [0], [0, 0, 3]])

    def test_again_keeps_the_deeds(self):
        told = ask(house(), deed(), act(0), AGAIN, deed(), CAN)
        self.assertEqual(told[3:], [[0], [0, 1], [0, 0, -1, 1, -1]])

    def test_now_rises_whatever_the_order(self):
        for order in itertools.permutations(range(4)):
            told = last(house(7), *[deed((), (), [1])] * 4, *[act(d) for d in order], NOW)
            self.assertEqual(told, [0, 4, 0, 1, 2, 3, 11])

    def test_now_with_all_sixteen(self):
        told = last(house(), *[deed()] * 16, *[act(d) for d in reversed(range(16))], NOW)
        self.assertEqual(told, [0, 16] + list(range(16)))


class CanTest(unittest.TestCase):
    def test_by_deed_then_kind(self):
        calls = [house(1, 1, 1), deed((), [1, 2], [0] * 3), deed((), (), [0] * 3), deed((), [0, 2], [0] * 3)]
        self.assertEqual(last(*calls, CAN), [0, 0, 1, 0, 2, 1, -1, 2, 0, 2, 2])
        self.assertEqual(last(*calls, act(0, 2), CAN), [0, 1, -1, 2, 0])

    def test_nothing_to_be_done(self):
        self.assertEqual(last(house(0), deed((), [0], [1]), deed([0], (), [0]), CAN), [0])

    def test_steps_are_just_what_act_takes(self):
        calls = [house(1, 0, 2), deed([1]), deed([], [0, 1]), deed([1, -1, 3], [2]), deed([], [1, 2])]
        calls = calls[:1] + [call[:-1] + [3, 0, 1, 0] for call in calls[1:]]
        steps, ways = plays_from(calls)
        self.assertGreater(len(steps), 10)
        for play, told in steps.items():
            taken = []
            for d, kind in itertools.product(range(4), range(-1, 5)):
                answer = last(*calls, *ways[play], act(d, kind))
                self.assertIn(answer[0], (0, -8))
                if answer[0] == 0:
                    taken.append((d, kind))
            self.assertEqual(told, taken, play)


class ClosureTest(unittest.TestCase):
    def test_chain_told_backwards(self):
        self.assertEqual(last(house(), deed([1]), deed([2]), deed(), CLOSURE), [0, 0, 1, 2])

    def test_things_do_not_matter(self):
        calls = [house(0), deed([1], [0], [0]), deed((), [0], [0])]
        self.assertEqual(ask(*calls, CAN, CLOSURE)[3:], [[0], [0, 0, 1]])

    def test_needs_that_go_round(self):
        calls = [house(), deed([1]), deed([0]), deed([2])]
        self.assertEqual(last(*calls, CLOSURE), [0])

    def test_round_with_another_way_in(self):
        calls = [house(), deed([1]), deed([0, -1, 2]), deed(), deed([3])]
        self.assertEqual(last(*calls, CLOSURE), [0, 0, 1, 2])

    def test_deeds_that_there_are_not_are_not_in(self):
        self.assertEqual(last(house(), deed([5]), deed([5, -1]), CLOSURE), [0, 1])

    def test_what_is_done_is_in(self):
        calls = [house(), deed([2]), deed(), deed([1])]
        self.assertEqual(last(*calls, act(1), CLOSURE), [0, 0, 1, 2])
        self.assertEqual(last(*calls, act(1), act(2), act(0), CLOSURE), [0, 0, 1, 2])


class PromiseThreeTest(unittest.TestCase):
    NEEDS = [(), (0,), (1,), (2, 3), (3, -1, 1), (0, 1, -1, 2), (7,)]

    def test_plays_come_to_the_closure(self):
        ends = 0
        for needs in every(self.NEEDS, 4, 7):
            calls = [house()] + [deed(told) for told in needs]
            closure = last(*calls, CLOSURE)[1:]
            steps, ways = plays_from(calls)
            for play in steps:
                self.assertEqual(last(*calls, *ways[play], CLOSURE)[1:], closure, needs)
                if steps[play] == []:
                    ends += 1
                    self.assertEqual(done_in(play), closure, needs)
        self.assertGreater(ends, 300)


if __name__ == "__main__":
    unittest.main()
