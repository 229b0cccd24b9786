"""The calls 10 served and 11 bound; promise 4."""

import itertools
import unittest

from tests.helper import (AGAIN, BIG, SERVED, act, ask, bound, deed, every, house, last, pairs)
from tests.model import Model, houses


def users(*uses, kinds=3):
    """Deeds that need and give nothing."""
    return [deed((), kinds_of_one, [0] * kinds) for kinds_of_one in uses]


class ServedTest(unittest.TestCase):
    def check(self, calls, *told):
        self.assertEqual(last(*calls, SERVED), [0, *told], calls)

    def test_no_kinds(self):
        self.check([house()], 0)
        self.check([house(), deed(), deed()], 0)

    def test_no_deeds(self):
        self.check([house(3, 4)], 0)

    def test_by_the_first_kind_of_which_there_is_some(self):
        self.check([house(1, 1, 1)] + users([0, 1, 2], [0, 1, 2], [0, 1, 2]), 3, 0, 0, 1, 1, 2, 2)
        self.check([house(0, 0, 1)] + users([0, 1, 2]), 1, 0, 2)
        self.check([house(0, 2, 1)] + users([0, 2], [1, 2], [0, 1]), 3, 0, 2, 1, 1, 2, 1)

    def test_deeds_that_use_nothing_are_not_served(self):
        self.check([house(1, 0, 5)] + users([], [0], [], [0]), 1, 1, 0, 0)
        self.check([house(1, 1, 5)] + users([], [], []), 0)

    def test_deeds_that_are_not_served(self):
        self.check([house(0, 1, 0)] + users([0], [1], [0, 2]), 1, 1, 1, 0, 2)
        self.check([house(2, 0, 0)] + users([0], [0], [0]), 2, 0, 0, 1, 0, 0)

    def test_told_set_holds_kinds_of_served_deeds_too(self):
        # Deed 2 isn't served; its one kind serves deed 0, and so the kind 2 of deed 0 stands in its row.
        self.check([house(1, 5, 0)] + users([0, 2], [1], [0]), 2, 0, 0, 1, 1, 0, 2)

    def test_told_set_over_several_kinds(self):
        calls = [house(1, 1, 1, 9)] + users([0, 1], [1, 2], [0, 2], [0], [3], kinds=4)
        self.check(calls, 4, 0, 0, 1, 1, 2, 2, 4, 3, 0, 1, 2)

    def test_told_set_of_several_deeds(self):
        calls = [house(0, 9, 0, 0, 0)] + users([4], [1], [2], [2, 4], kinds=5)
        self.check(calls, 1, 1, 1, 2, 4)

    def test_a_deed_is_given_another_kind(self):
        self.check([house(1, 1, 0)] + users([0, 1], [0]), 2, 0, 1, 1, 0)

    def test_two_deeds_are_given_other_kinds(self):
        self.check([house(1, 1, 1)] + users([0, 1], [1, 2], [0]), 3, 0, 1, 1, 2, 2, 0)

    def test_four_deeds_are_given_other_kinds(self):
        calls = [house(1, 1, 1, 1, 1)] + users([0, 1], [1, 2], [2, 3], [3, 4], [0], kinds=5)
        self.check(calls, 5, 0, 1, 1, 2, 2, 3, 3, 4, 4, 0)

    def test_the_first_free_kind_of_the_row_is_taken(self):
        # Both kinds that deed 2 uses are out. Kind 3 stands in its row for deed 0, ahead of kind 2 for deed 1.
        deeds = users([0, 3], [1, 2], [0, 1], kinds=4)
        self.check([house(1, 1, 1, 1)] + deeds, 3, 0, 3, 1, 1, 2, 0)
        self.check([house(1, 1, 1, 0)] + deeds, 3, 0, 0, 1, 2, 2, 1)

    def test_kinds_nearer_in_the_row_go_ahead_of_those_further_on(self):
        # Deed 3's row: 0 and 1 for itself, 2 for deed 0, 3 for deed 1, and 4, further on, for deed 2.
        deeds = users([0, 2], [1, 3], [2, 4], [0, 1], kinds=5)
        self.check([house(1, 1, 1, 1, 1)] + deeds, 4, 0, 0, 1, 3, 2, 2, 3, 1)
        self.check([house(1, 1, 1, 0, 1)] + deeds, 4, 0, 2, 1, 1, 2, 4, 3, 0)

    def test_deeds_of_one_kind_by_their_numbers(self):
        # Kind 2 stands in deed 2's row for deed 0, ahead of kind 1 for deed 1.
        self.check([house(2, 1, 1)] + users([0, 2], [0, 1], [0]), 3, 0, 2, 1, 0, 2, 0)
        self.check([house(2, 1, 0)] + users([0, 2], [0, 1], [0]), 3, 0, 0, 1, 1, 2, 0)

    def test_by_number_also_once_kinds_were_given_anew(self):
        # Deed 0 goes from kind 0 to 1 for deed 2's sake, behind deed 1; yet it's still the first in kind 1.
        calls = [house(1, 2, 1, 1)] + users([0, 1, 3], [1, 2], [0], [1], kinds=4)
        self.check(calls, 4, 0, 3, 1, 1, 2, 0, 3, 1)

    def test_kinds_of_one_deed_rising(self):
        self.check([house(1, 1, 1)] + users([0, 1, 2], [0]), 2, 0, 1, 1, 0)

    def test_a_kind_stands_for_the_deed_that_it_was_put_in_for(self):
        # Both deeds 0 and 1 could change to kind 2; it stands in the row for deed 0.
        self.check([house(1, 1, 1)] + users([0, 2], [1, 2], [0, 1]), 3, 0, 2, 1, 1, 2, 0)

    def test_gifts_of_all_deeds_count(self):
        calls = [house(0, 0), deed([9], [0], [0, 0]), deed([0], [1], [1, 0]), deed([1], [0, 1], [0, 1])]
        self.check(calls, 2, 0, 0, 1, 1, 0, 1)
        calls = [house(0), deed([0], [0], [1])]
        self.check(calls, 1, 0, 0)

    def test_gifts_of_deeds_that_use_nothing_count(self):
        self.check([house(1), deed((), [0], [0]), deed((), [0], [0]), deed([3], (), [1])], 2, 0, 0, 1, 0)

    def test_the_play_does_not_matter(self):
        calls = [house(1, 0), deed((), [0], [0, 1]), deed((), [0, 1], [0, 0])]
        told = ask(*calls, SERVED, act(0, 0), SERVED, act(1, 1), SERVED, AGAIN, SERVED)
        self.assertEqual([told[at] for at in (3, 5, 7, 9)], [[0, 2, 0, 0, 1, 1]] * 4)

    def test_sixteen_deeds(self):
        full = [house(16, 0)] + users(*[[0, 1]] * 16, kinds=2)
        self.check(full, 16, *[number for d in range(16) for number in (d, 0)])
        full = [house(7, 8)] + users(*[[0, 1]] * 16, kinds=2)
        self.check(full, 15, *[number for d in range(15) for number in (d, int(d > 6))], 0, 1)


class BoundTest(unittest.TestCase):
    CALLS = [house(2, 3, 0), deed((), [0], [0, 1, 0]), deed((), [1], [0, 0, 0]),
             deed([7], [0, 1], [4, 0, 0]), deed((), (), [0, 0, 1])]

    def test_deeds_that_use_another_and_the_things(self):
        for kinds, told in [((), 3), ((0,), 2 + 6), ((1,), 2 + 4), ((2,), 3 + 1), ((0, 1), 10),
                            ((0, 2), 2 + 7), ((1, 2), 2 + 5), ((0, 1, 2), 11)]:
            self.assertEqual(last(*self.CALLS, bound(*kinds)), [0, told], kinds)

    def test_no_kinds(self):
        self.assertEqual(last(house(), bound()), [0, 0])
        self.assertEqual(last(house(), deed(), bound()), [0, 0])
        self.assertEqual(last(house(), bound(0)), [-3])

    def test_no_deeds(self):
        told = ask(house(2, 5), bound(), bound(0), bound(1), bound(0, 1))
        self.assertEqual(told[1:], [[0, 0], [0, 2], [0, 5], [0, 7]])

    def test_a_deed_that_uses_several_others_is_one(self):
        self.assertEqual(last(house(0, 0, 0), *users([0, 1, 2]), bound(0)), [0, 1])

    def test_the_play_does_not_matter(self):
        told = ask(*self.CALLS, act(0, 0), bound(0), act(3), bound(2))
        self.assertEqual([told[6], told[8]], [[0, 8], [0, 4]])

    def test_most(self):
        full = [house(20, 20, 20, 20, 20)] + [deed((), [0, 4], [9] * 5)] * 16
        self.assertEqual(last(*full, bound(0, 1, 2, 3, 4)), [0, 5 * (20 + 16 * 9)])
        self.assertEqual(last(*full, bound(0, 1, 2, 3)), [0, 16 + 4 * (20 + 16 * 9)])

    def test_ranges(self):
        full = house(1, 1, 1, 1, 1)
        for kinds in [(), (0,), (4,), (0, 4), (1, 2, 3), (0, 1, 2, 3, 4)]:
            self.assertEqual(last(full, bound(*kinds)), [0, len(kinds)], kinds)
        for kinds in [(-1,), (5,), (-1, 0), (0, 5), (0, BIG), (-BIG, 0), (0, 1, 2, 3, 4, 5), (0, 1, 2, 3, 4, 4),
                      range(50), [0] * 50]:
            self.assertEqual(last(full, bound(*kinds)), [-1], kinds)

    def test_list_that_does_not_rise(self):
        full = house(1, 1, 1, 1, 1)
        for kinds in [(0, 0), (1, 0), (0, 2, 1), (0, 1, 1), (4, 4), (0, 1, 2, 4, 3)]:
            self.assertEqual(last(full, bound(*kinds)), [-1], kinds)

    def test_no_such_kind(self):
        self.assertEqual(last(house(1, 1), bound(2)), [-3])
        self.assertEqual(last(house(1, 1), bound(0, 1, 4)), [-3])
        self.assertEqual(last(house(1, 1), bound(1)), [0, 1])


def houses_of_three_kinds(stride):
    """Houses in which it matters what serves which: four deeds, three kinds, up to two things each."""
    uses = [kinds for size in range(4) for kinds in itertools.combinations(range(3), size)]
    gives = [[0, 0, 0], [0, 0, 0], [0, 1, 0], [0, 0, 0], [1, 0, 0]]
    for turn, told in enumerate(every(uses, 4, stride)):
        first = [turn % 3, turn // 3 % 2, turn // 6 % 3]
        yield [house(*first)] + [deed((), kinds, gives[(turn + d) % 5]) for d, kinds in enumerate(told)]


class PromiseFourTest(unittest.TestCase):
    def sets_of_kinds(self, model):
        kinds = range(len(model.first))
        return [told for size in range(len(kinds) + 1) for told in itertools.combinations(kinds, size)]

    def check(self, calls):
        """Whether what's served is right, and as many as can be; how many that is, and the told set."""
        model = Model(calls)
        sets = self.sets_of_kinds(model)
        told = ask(*calls, SERVED, *[bound(*kinds) for kinds in sets])[len(calls):]
        self.assertEqual(told[1:], [[0, model.bound(set(kinds))] for kinds in sets], calls)
        count = told[0][1]
        giving = dict(pairs(told[0][2:2 + 2 * count]))
        told_set = told[0][2 + 2 * count:]
        self.assertEqual((len(giving), list(giving)), (count, sorted(giving)), calls)
        for d, kind in giving.items():
            self.assertIn(kind, model.uses[d], calls)
        for kind in range(len(model.first)):
            self.assertLessEqual(list(giving.values()).count(kind), model.things([kind], model.deeds), calls)
        self.assertEqual(count, min(answer[1] for answer in told[1:]), calls)
        self.assertEqual([0, count], told[1 + sets.index(tuple(told_set))], calls)
        self.assertEqual(count, model.most_served(), calls)
        self.assertEqual((giving, set(told_set)), model.giving_out(), calls)
        return count, told_set

    def test_houses_of_three_kinds(self):
        found = [self.check(calls) for calls in houses_of_three_kinds(7)]
        self.assertEqual({count for count, told_set in found}, {0, 1, 2, 3, 4})
        self.assertEqual(len({tuple(told_set) for count, told_set in found}), 8)

    def test_other_houses(self):
        for calls in houses():
            self.check(calls)

    def test_houses_of_five_kinds(self):
        uses = [[0, 1], [1, 2], [2, 3], [3, 4], [4], [0], [2], [0, 4]]
        for turn, told in enumerate(every(uses, 5, 61)):
            first = [1 + (turn >> kind) % 2 - turn // 32 % 2 for kind in range(5)]
            self.check([house(*first)] + users(*told, kinds=5))


if __name__ == "__main__":
    unittest.main()
