"""The refusals: which is answered where several are due; promise 6."""

import unittest

from tests.helper import (AGAIN, BIG, CAN, CLOSURE, DEAD, DOOM, NOW, RANKS, SERVED, STATES, WAY, accepts, act,
                          ask, bound, deed, house, last, look, must, rivals, sure)

BARE = [AGAIN, NOW, CAN, CLOSURE, RANKS, SERVED, STATES, DEAD, WAY, DOOM]
# In both houses more plays can come about than a row has.
FULL = [house(1)] + [deed((), (), [0])] * 16
NO_ROW = [house(1)] + [deed((), (), [0])] * 9


class NoHouseTest(unittest.TestCase):
    def test_due_in_every_call_but_house(self):
        for call in BARE + [deed(), act(0), accepts(), sure(0), bound(), must(0), look(0), rivals(0)]:
            self.assertEqual(ask(call, call), [[-2], [-2]], call)

    def test_house_comes_later(self):
        self.assertEqual(ask(NOW, deed(), house(1), NOW), [[-2], [-2], [0], [0, 0, 1]])

    def test_no_house_behind_a_refused_one(self):
        self.assertEqual(ask(house(21), NOW), [[-1], [-2]])


class NearestTest(unittest.TestCase):
    """Pairs that are due at once, and the one nearest to 0."""

    def check(self, *calls_then_refusal):
        calls = calls_then_refusal[:-1]
        self.assertEqual(last(*calls), [calls_then_refusal[-1]], calls)

    def test_house(self):
        self.check(house(), house(21), -1)
        self.check(house(), house(*[0] * 6), -1)

    def test_deed_not_as_told(self):
        for wrong in [deed([16], (), [0]), deed((), [0, 0], [0]), deed((), (), [10])]:
            self.check(wrong, -1)
            self.check(house(0, 0), wrong, -1)
            self.check(*FULL, wrong, -1)
            self.check(house(1), deed((), (), [0]), act(0), wrong, -1)
        self.check(house(1), deed([16], [1], [0]), -1)
        self.check(house(1), deed((), [1], [10]), -1)
        self.check(house(1), deed((), [1, 0], [0]), -1)

    def test_deed_without_house(self):
        self.check(deed((), [4], ()), -2)
        self.check(deed((), (), [0]), -2)

    def test_deed_of_no_such_kind(self):
        self.check(*FULL, deed((), [1], [0]), -3)
        self.check(house(1), deed((), [1], [0, 0]), -3)
        self.check(house(1), deed((), [0, 1], ()), -3)
        self.check(house(1), deed((), (), [0]), act(0), deed((), [1], [0]), -3)
        self.check(*FULL, act(0), deed((), [4], [0, 0]), -3)

    def test_deed_beyond_sixteen(self):
        self.check(*FULL, deed((), (), [0, 0]), -4)
        self.check(*FULL, act(0), deed((), (), [0]), -4)
        self.check(*FULL, act(0), deed((), (), ()), -4)

    def test_deed_with_wrong_gives_when_begun(self):
        self.check(house(1), deed((), (), [0]), act(0), deed((), (), ()), -6)

    def test_act(self):
        self.check(act(16), -1)
        self.check(act(0, 5), -1)
        self.check(act(5, 4), -2)
        self.check(house(), act(16), -1)
        self.check(house(), act(0, 5), -1)
        self.check(house(), deed([0]), act(0, -2), -1)
        self.check(house(), deed([0]), act(1, 3), -3)
        self.check(house(1), deed((), [0], [0]), act(1, 0), -3)

    def test_accepts(self):
        self.check(accepts(1001), -1)
        self.check(accepts(*[0] * 17), -1)
        self.check(accepts(0), -2)

    def test_sure(self):
        self.check(sure(16), -1)
        self.check(sure(0, 1, 0), -1)
        self.check(sure(5, 7), -2)
        self.check(house(), sure(-1), -1)
        self.check(house(), sure(0, 3, 3), -1)
        self.check(house(), deed(), sure(1, 16), -1)
        self.check(house(), deed(), sure(16, 1), -1)

    def test_bound(self):
        self.check(bound(5), -1)
        self.check(bound(1, 0), -1)
        self.check(bound(*[0] * 6), -1)
        self.check(bound(0), -2)
        self.check(house(), bound(0, 5), -1)
        self.check(house(), bound(0, 0), -1)
        self.check(house(1), bound(2, 1), -1)

    def test_a_deeds_number_alone(self):
        for call in (must, look, rivals):
            self.check(call(16), -1)
            self.check(call(15), -2)
            self.check(house(), call(-1), -1)
            self.check(house(), deed(), call(16), -1)

    def test_no_row(self):
        for calls in (FULL, NO_ROW):
            for call in (DEAD, WAY, DOOM, must(0), must(8)):
                self.check(*calls, call, -9)
            self.check(*calls, must(16), -1)
            self.check(*calls, must(-1), -1)
        self.check(*NO_ROW, act(0), must(0), -9)
        for d in (9, 15):
            self.check(*NO_ROW, must(d), -3)
            self.check(*NO_ROW, act(0), must(d), -3)


class PromiseSixTest(unittest.TestCase):
    """A refused call changes nothing."""

    QUESTIONS = [NOW, CAN, CLOSURE, RANKS, SERVED, STATES, look(0), look(1)]

    def check(self, calls, refusals):
        """Each call is refused with its number, and all is told and goes on as before it."""
        before = ask(*calls, *self.QUESTIONS)[len(calls):]
        for call, refusal in refusals:
            told = ask(*calls, call, *self.QUESTIONS, call, *self.QUESTIONS)[len(calls):]
            self.assertEqual(told, ([[refusal]] + before) * 2, call)
            onward = [AGAIN, *self.QUESTIONS]
            self.assertEqual(ask(*calls, call, *onward)[-len(onward):],
                             ask(*calls, *onward)[-len(onward):], call)

    def test_without_house(self):
        self.check([], [(house(21), -1), (house(1, 2, 3, 4, 5, 6), -1), (deed([16]), -1), (deed(), -2),
                        (act(0, 5), -1), (act(0), -2), (AGAIN, -2), (NOW, -2), (CAN, -2), (CLOSURE, -2),
                        (RANKS, -2), (accepts(-1), -1), (accepts(), -2), (sure(16), -1), (sure(0), -2),
                        (SERVED, -2), (bound(0, 0), -1), (bound(0), -2), (STATES, -2), (DEAD, -2), (WAY, -2),
                        (DOOM, -2), (must(16), -1), (must(0), -2), (look(-1), -1), (look(0), -2),
                        (rivals(16), -1), (rivals(0), -2)])

    def test_with_no_deeds(self):
        self.check([house(1)], [(house(2), -5), (house(), -5), (house(-1), -1), (deed((), [1], [0]), -3),
                                (deed((), (), ()), -6), (act(0), -3), (sure(0), -3), (bound(1), -3),
                                (bound(5), -1), (must(0), -3), (look(0), -3), (rivals(0), -3)])

    def test_before_anything_is_done(self):
        calls = [house(1, 0), deed([1], [0, 1], [0, 1]), deed((), [0], [2, 0])]
        self.check(calls, [(house(3, 3), -5), (house(21, 0), -1), (deed([-2], (), [0, 0]), -1),
                           (deed((), [1, 0], [0, 0]), -1), (deed((), (), [10, 0]), -1),
                           (deed((), [2], [0, 0]), -3), (deed((), [0], [0]), -6), (act(0, 0), -8),
                           (act(1, -1), -8), (act(1, 1), -8), (act(2, 0), -3), (act(16, 0), -1),
                           (act(1, BIG), -1), (accepts(1, 1001), -1), (sure(0, 1, 1), -1),
                           (sure(2), -3), (sure(0, 2), -3), (bound(0, 2), -3), (bound(1, 0), -1),
                           (must(2), -3), (must(16), -1), (look(2), -3), (look(BIG), -1), (rivals(2), -3),
                           (rivals(-1), -1)])

    def test_once_something_is_done(self):
        calls = [house(1, 0), deed([1], [0, 1], [0, 1]), deed((), [0], [2, 0]), act(1, 0)]
        self.check(calls, [(house(3, 3), -5), (deed((), (), [0, 0]), -7), (deed((), (), [0]), -6),
                           (deed((), [4], [0, 0]), -3), (deed([16], (), [0, 0]), -1), (act(1, 0), -8),
                           (act(0, 1), -8), (act(0, -1), -8), (act(5, 0), -3), (act(-1, 0), -1),
                           (accepts(-1, 1), -1), (sure(15), -3), (sure(1, 0, 0), -1), (bound(4), -3),
                           (bound(0, 1, 5), -1), (must(2), -3), (must(-1), -1), (look(2), -3), (look(16), -1),
                           (rivals(15), -3), (rivals(-BIG), -1)])

    def test_without_row(self):
        refusals = [(DEAD, -9), (WAY, -9), (DOOM, -9), (must(0), -9), (must(8), -9), (must(9), -3), (must(16), -1)]
        self.check(NO_ROW, refusals)
        self.check(NO_ROW[:-1] + [deed([2], [0], [3])] + [deed((), (), [0])] * 2 + [act(2)], refusals[:4])

    def test_with_sixteen_deeds(self):
        self.check(FULL, [(deed((), (), [0]), -4), (deed((), [0], [1]), -4), (deed((), (), ()), -4)])
        self.check(FULL + [act(3)], [(deed((), (), [0]), -4), (act(3), -8)])


if __name__ == "__main__":
    unittest.main()
