"""The calls 0 house and 1 deed."""

import unittest

from tests.helper import (BIG, CAN, CLOSURE, NOW, RANKS, accepts, act, ask, deed, house, last,
                          sure)


class HouseTest(unittest.TestCase):
    def test_things_at_first(self):
        self.assertEqual(ask(house(3, 0, 20), NOW), [[0], [0, 0, 3, 0, 20]])

    def test_no_kinds(self):
        self.assertEqual(ask(house(), NOW), [[0], [0, 0]])

    def test_five_kinds_and_one_more(self):
        self.assertEqual(ask(house(1, 2, 3, 4, 5), NOW), [[0], [0, 0, 1, 2, 3, 4, 5]])
        self.assertEqual(ask(house(1, 2, 3, 4, 5, 6), NOW), [[-1], [-2]])

    def test_range_of_things(self):
        for things in [(0,), (20,), (0, 20), (20, 20, 20, 20, 20)]:
            self.assertEqual(last(house(*things)), [0], things)
        for things in [(-1,), (21,), (20, 21), (-1, 0), (BIG,), (-BIG,), (1,) * 50]:
            self.assertEqual(last(house(*things)), [-1], things)

    def test_house_stands(self):
        self.assertEqual(ask(house(1), house(1), NOW), [[0], [-5], [0, 0, 1]])
        self.assertEqual(last(house(), house()), [-5])

    def test_house_stands_even_when_something_is_done(self):
        told = ask(house(1), deed(gives=[0]), act(0), house(2), NOW)
        self.assertEqual(told[3:], [[-5], [0, 1, 0, 1]])

    def test_refused_house_leaves_room_for_one(self):
        self.assertEqual(ask(house(21), house(2), NOW), [[-1], [0], [0, 0, 2]])


class DeedTest(unittest.TestCase):
    def test_numbers_of_deeds(self):
        self.assertEqual(ask(house(), deed(), deed(), deed())[1:], [[0, 0], [0, 1], [0, 2]])

    def test_sixteen_deeds_and_one_more(self):
        told = ask(house(), *[deed()] * 17, CLOSURE)
        self.assertEqual(told[1:17], [[0, d] for d in range(16)])
        self.assertEqual(told[17:], [[-4], [0] + list(range(16))])

    def test_no_deeds(self):
        self.assertEqual(ask(house(2), NOW, CAN, CLOSURE, RANKS)[1:], [[0, 0, 2], [0], [0], [0]])

    def needs_of_new_deed(self, needs, done):
        """Whether deed 4 with these needs can be done once these are done."""
        calls = [house()] + [deed()] * 4 + [deed(needs)] + [act(d) for d in done]
        return last(*calls, act(4)) == [0, int(0 in done)]

    def test_empty_needs_are_one_empty_set(self):
        self.assertTrue(self.needs_of_new_deed([], []))

    def test_parting_alone_is_two_empty_sets(self):
        self.assertTrue(self.needs_of_new_deed([-1], []))

    def test_parting_at_an_end(self):
        self.assertTrue(self.needs_of_new_deed([3, -1], []))
        self.assertTrue(self.needs_of_new_deed([-1, 3], []))

    def test_two_partings_side_by_side(self):
        self.assertTrue(self.needs_of_new_deed([3, -1, -1, 2], []))
        self.assertTrue(self.needs_of_new_deed([-1, -1], []))

    def test_one_set(self):
        self.assertFalse(self.needs_of_new_deed([3], []))
        self.assertTrue(self.needs_of_new_deed([3], [3]))
        self.assertFalse(self.needs_of_new_deed([3, 1], [3]))
        self.assertFalse(self.needs_of_new_deed([3, 1], [1, 2]))
        self.assertTrue(self.needs_of_new_deed([3, 1], [3, 1]))
        self.assertTrue(self.needs_of_new_deed([0], [0]))

    def test_some_one_set(self):
        self.assertFalse(self.needs_of_new_deed([0, 1, -1, 2, 3], [0, 2]))
        self.assertTrue(self.needs_of_new_deed([0, 1, -1, 2, 3], [0, 1]))
        self.assertTrue(self.needs_of_new_deed([0, 1, -1, 2, 3], [2, 3]))
        self.assertTrue(self.needs_of_new_deed([0, 1, -1, 5, -1, 2], [2]))

    def test_sets_need_not_rise(self):
        self.assertTrue(self.needs_of_new_deed([3, 0, 3], [0, 3]))

    def test_needs_of_deeds_that_there_are_not(self):
        self.assertFalse(self.needs_of_new_deed([5], [0, 1, 2, 3]))
        self.assertFalse(self.needs_of_new_deed([0, 15], [0, 1, 2, 3]))
        self.assertTrue(self.needs_of_new_deed([15, -1, 0], [0]))

    def test_needs_of_itself_are_never_met(self):
        self.assertEqual(ask(house(), deed([0]), CAN, CLOSURE, RANKS)[2:], [[0], [0], [0, 0]])

    def test_needs_of_a_deed_that_comes_later(self):
        told = ask(house(), deed([1]), CLOSURE, deed(), CLOSURE)
        self.assertEqual(told[2:], [[0], [0, 1], [0, 0, 1]])

    def test_range_of_needs(self):
        for needs in [[-1], [0], [15], [-1, 15], [0] * 40, [-1] * 40]:
            self.assertEqual(last(house(), deed(needs)), [0, 0], needs)
        for needs in [[-2], [16], [0, 16], [-2, -1], [BIG], [-BIG], [0] * 41, [-1] * 50]:
            self.assertEqual(last(house(), deed(needs)), [-1], needs)

    def test_range_of_uses(self):
        full = house(1, 1, 1, 1, 1)
        gives = [0] * 5
        for uses in [[], [0], [4], [0, 4], [1, 2, 3], [0, 1, 2, 3, 4]]:
            self.assertEqual(last(full, deed((), uses, gives)), [0, 0], uses)
        for uses in [[-1], [5], [0, 5], [-1, 0], [BIG], [-BIG], [0, 1, 2, 3, 4, 5], [0, 1, 2, 3, 4, 4]]:
            self.assertEqual(last(full, deed((), uses, gives)), [-1], uses)

    def test_uses_that_do_not_rise(self):
        full = house(1, 1, 1, 1, 1)
        for uses in [[0, 0], [1, 0], [0, 2, 1], [0, 1, 1], [4, 4], [2, 1, 3]]:
            self.assertEqual(last(full, deed((), uses, [0] * 5)), [-1], uses)

    def test_range_of_gives(self):
        full = house(1, 1, 1, 1, 1)
        for gives in [[0] * 5, [9] * 5, [0, 9, 0, 9, 0]]:
            self.assertEqual(last(full, deed((), (), gives)), [0, 0], gives)
        for gives in [[-1] + [0] * 4, [0] * 4 + [10], [0] * 4 + [-1], [BIG] * 5, [-BIG] * 5, [0] * 6]:
            self.assertEqual(last(full, deed((), (), gives)), [-1], gives)

    def test_no_such_kind(self):
        self.assertEqual(last(house(1), deed((), [0], [0])), [0, 0])
        self.assertEqual(last(house(1), deed((), [1], [0])), [-3])
        self.assertEqual(last(house(1), deed((), [0, 1], [0])), [-3])
        self.assertEqual(last(house(), deed((), [0], [])), [-3])
        self.assertEqual(last(house(1, 1, 1, 1), deed((), [4], [0] * 4)), [-3])

    def test_gives_for_each_kind(self):
        self.assertEqual(last(house(1, 1), deed((), (), [0])), [-6])
        self.assertEqual(last(house(1, 1), deed((), (), [])), [-6])
        self.assertEqual(last(house(1, 1), deed((), (), [0, 0, 0])), [-6])
        self.assertEqual(last(house(), deed((), (), [0])), [-6])

    def test_something_has_been_done(self):
        told = ask(house(), deed(), act(0), deed(), [3], deed(), NOW)
        self.assertEqual(told[3:], [[-7], [0], [0, 1], [0, 0]])

    def test_refused_deed_is_not_there(self):
        told = ask(house(1), deed((), (), []), act(0), sure(0), RANKS, accepts(), deed((), (), [1]))
        self.assertEqual(told[1:], [[-6], [-3], [-3], [0], [0, 1], [0, 0]])


if __name__ == "__main__":
    unittest.main()
