"""The calls 17 look and 18 rivals."""

import unittest

from tests.helper import AGAIN, BIG, act, ask, deed, house, last, look, rivals
from tests.model import Model, houses


class LookTest(unittest.TestCase):
    def check(self, needs, uses, gives, *told):
        calls = [house(*[1] * len(gives)), deed((), (), [0] * len(gives)), deed(needs, uses, gives)]
        self.assertEqual(last(*calls, look(1)), [0, *told], (needs, uses, gives))

    def test_needs_uses_and_gives(self):
        self.check([3, -1, 0, 2], [0, 2], [5, 0, 9], 2, 1, 3, 2, 0, 2, 2, 0, 2, 5, 0, 9)

    def test_one_empty_set(self):
        self.check([], [], [], 1, 0, 0)

    def test_partings(self):
        self.check([-1], [], [], 2, 0, 0, 0)
        self.check([3, -1], [], [], 2, 1, 3, 0, 0)
        self.check([-1, 3], [], [], 2, 0, 1, 3, 0)
        self.check([3, -1, -1, 2], [], [], 3, 1, 3, 0, 1, 2, 0)
        self.check([-1] * 40, [], [], 41, *[0] * 41, 0)

    def test_needs_as_they_were_told(self):
        self.check([3, 1, 15, 2], [], [], 1, 4, 3, 1, 15, 2, 0)
        self.check([1, 1, -1, 1, 1], [], [], 2, 2, 1, 1, 2, 1, 1, 0)
        self.check([1] * 40, [], [], 1, 40, *[1] * 40, 0)

    def test_uses(self):
        self.check([], [4], [0] * 5, 1, 0, 1, 4, 0, 0, 0, 0, 0)
        self.check([], [0, 1, 2, 3, 4], [9] * 5, 1, 0, 5, 0, 1, 2, 3, 4, 9, 9, 9, 9, 9)

    def test_each_deed(self):
        calls = [house(1), deed([1], (), [2]), deed((), [0], [0])]
        self.assertEqual(ask(*calls, look(0), look(1))[3:], [[0, 1, 1, 1, 0, 2], [0, 1, 0, 1, 0, 0]])

    def test_the_play_does_not_matter(self):
        calls = [house(1), deed([1], (), [2]), deed((), [0], [3])]
        told = ask(*calls, look(1), act(1, 0), look(1), act(0), look(1), AGAIN, look(1))
        self.assertEqual([told[at] for at in (3, 5, 7, 9)], [[0, 1, 0, 1, 0, 3]] * 4)

    def test_ranges(self):
        full = [house()] + [deed([d]) for d in range(16)]
        self.assertEqual(ask(*full, look(0), look(15))[17:], [[0, 1, 1, 0, 0], [0, 1, 1, 15, 0]])
        for d in (-1, 16, BIG, -BIG):
            self.assertEqual(last(*full, look(d)), [-1], d)

    def test_no_such_deed(self):
        self.assertEqual(last(house(), look(0)), [-3])
        self.assertEqual(last(house(), deed(), look(1)), [-3])
        self.assertEqual(last(house(), deed(), look(15)), [-3])


class RivalsTest(unittest.TestCase):
    def test_some_same_kind(self):
        calls = [house(1, 2, 4), deed((), [0, 1], [0] * 3), deed((), [1, 2], [0] * 3), deed((), [2], [0] * 3),
                 deed((), (), [0] * 3)]
        told = ask(*calls, *[rivals(d) for d in range(4)])[5:]
        self.assertEqual(told, [[0, 1, 3], [0, 2, 6], [0, 1, 4], [0, 0, 0]])

    def test_a_rival_that_shares_two_kinds_is_one(self):
        self.assertEqual(last(house(1, 1), *[deed((), [0, 1], [0, 0])] * 2, rivals(0)), [0, 1, 2])

    def test_gifts_of_all_deeds_count(self):
        calls = [house(1, 0), deed([9], [0], [2, 0]), deed((), (), [3, 5]), deed((), [1], [0, 9])]
        self.assertEqual(ask(*calls, rivals(0), rivals(1), rivals(2))[4:], [[0, 0, 6], [0, 0, 0], [0, 0, 14]])

    def test_the_play_does_not_matter(self):
        calls = [house(1), deed((), [0], [0]), deed((), [0], [4])]
        told = ask(*calls, rivals(0), act(1, 0), rivals(0), rivals(1), act(0, 0), rivals(0))
        self.assertEqual([told[at] for at in (3, 5, 6, 8)], [[0, 1, 5]] * 4)

    def test_most(self):
        full = [house(20, 20, 20, 20, 20)] + [deed((), [0, 1, 2, 3, 4], [9] * 5)] * 16
        self.assertEqual(last(*full, rivals(7)), [0, 15, 5 * (20 + 16 * 9)])

    def test_ranges(self):
        full = [house(3)] + [deed((), [0], [0])] * 16
        self.assertEqual(ask(*full, rivals(0), rivals(15))[17:], [[0, 15, 3], [0, 15, 3]])
        for d in (-1, 16, BIG, -BIG):
            self.assertEqual(last(*full, rivals(d)), [-1], d)

    def test_no_such_deed(self):
        self.assertEqual(last(house(2), rivals(0)), [-3])
        self.assertEqual(last(house(), deed(), rivals(1)), [-3])
        self.assertEqual(last(house(), deed(), rivals(15)), [-3])

    def test_small_houses(self):
        for calls in houses():
            model = Model(calls)
            deeds = sorted(model.deeds)
            told = ask(*calls, *[rivals(d) for d in deeds])[len(calls):]
            wanted = [[0, len(model.rivals(d)), model.things(model.uses[d], model.deeds)] for d in deeds]
            self.assertEqual(told, wanted, calls)


if __name__ == "__main__":
    unittest.main()
