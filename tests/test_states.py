"""The calls 12 states, 13 dead, 14 way, 15 doom and 16 must; promise 5."""

import itertools
import unittest

from tests.helper import (AGAIN, BIG, DEAD, DOOM, NOW, RANKS, STATES, WAY, act, ask, deed, every, house, last,
                          must, pairs)
from tests.model import Model, dead_plays, distances, first_way, houses, with_end

ALL_FOUR = [STATES, DEAD, WAY, DOOM]


def tell(calls):
    """What the four calls on the row answer behind these calls."""
    return ask(*calls, *ALL_FOUR)[len(calls):]


def chains(*sizes, ahead=()):
    """Deeds that need nothing but the one before them in their chain: one play more a chain than it has deeds."""
    told = list(ahead)
    for size in sizes:
        told += [deed()] + [deed([len(told) + at]) for at in range(size - 1)]
    return [house()] + told


# 5 * 5 * 8 plays, and just one more with a deed that needs all the others.
ROW_OF_200 = chains(4, 4, 7)
ROW_OF_201 = ROW_OF_200 + [deed(range(15))]

# The one key opens a door or a box. Behind the door is the end; in the box lies nothing.
DOOR_AND_BOX = [house(1), deed([1], (), [0]), deed((), [0], [0]), deed((), [0], [0])]


class RowTest(unittest.TestCase):
    def test_no_kinds_and_no_deeds(self):
        self.assertEqual(tell([house()]), [[0, 1, 1, 1], [0, 1], [0, 0], [0, 1]])

    def test_no_deed_0(self):
        self.assertEqual(tell([house(3, 4)]), [[0, 1, 1, 1], [0, 1], [0, 0], [0, 1]])

    def test_one_deed(self):
        self.assertEqual(tell([house(), deed()]), [[0, 1, 2, 0], [0, 0], [0, 1, 0, -1], [0, 0]])
        self.assertEqual(tell([house(0, 2), deed((), [1], [0, 0])]), [[0, 1, 2, 0], [0, 0], [0, 1, 0, 1], [0, 0]])

    def test_the_end_is_done_already(self):
        self.assertEqual(tell([house(), deed(), act(0)]), [[0, 1, 1, 0], [0, 0], [0, 1], [0, 0]])
        self.assertEqual(tell([house(), deed(), deed(), deed(), act(0)]), [[0, 1, 4, 0], [0, 0], [0, 1], [0, 0]])

    def test_the_end_cannot_be_done(self):
        self.assertEqual(tell([house(), deed([9]), deed()]), [[0, 1, 2, 2], [0, 1], [0, 0], [0, 1]])
        self.assertEqual(tell([house(0), deed((), [0], [0])]), [[0, 1, 1, 1], [0, 1], [0, 0], [0, 1]])

    def test_a_key_for_two(self):
        self.assertEqual(tell(DOOR_AND_BOX), [[0, 1, 4, 1], [0, 0], [0, 1, 1, 0, 0, -1], [0, 1, 2, 0]])

    def test_from_the_play_as_it_is(self):
        self.assertEqual(tell(DOOR_AND_BOX + [act(1, 0)]), [[0, 1, 2, 0], [0, 0], [0, 1, 0, -1], [0, 0]])
        self.assertEqual(tell(DOOR_AND_BOX + [act(1, 0), act(0)]), [[0, 1, 1, 0], [0, 0], [0, 1], [0, 0]])
        self.assertEqual(tell(DOOR_AND_BOX + [act(2, 0)]), [[0, 1, 1, 1], [0, 1], [0, 0], [0, 1]])
        self.assertEqual(tell(DOOR_AND_BOX + [act(2, 0), AGAIN]), tell(DOOR_AND_BOX))

    def test_asking_does_not_play(self):
        told = ask(*DOOR_AND_BOX, NOW, *ALL_FOUR, must(1), NOW, *ALL_FOUR, must(1))[4:]
        self.assertEqual(told[:6], told[6:])

    def test_the_same_play_by_two_ways_is_one(self):
        self.assertEqual(last(house(), deed(), deed(), STATES), [0, 1, 4, 0])
        self.assertEqual(last(house(), deed(), deed(), deed(), STATES), [0, 1, 8, 0])

    def test_plays_with_other_things_are_others(self):
        # Deed 0 done with kind 0 and with kind 1 leaves other things.
        self.assertEqual(last(house(1, 1), deed((), [0, 1], [0, 0]), STATES), [0, 1, 3, 0])
        self.assertEqual(last(house(1, 0), deed((), [0, 1], [0, 0]), STATES), [0, 1, 2, 0])

    def test_plays_with_the_same_things_and_others_done_are_others(self):
        self.assertEqual(last(house(1), deed((), [0], [0]), deed((), [0], [0]), STATES), [0, 1, 3, 1])

    def test_the_same_things_by_other_kinds_are_one_play(self):
        # Each of the two deeds takes one of the kinds, whichever: both done, nothing is left.
        self.assertEqual(last(house(1, 1), *[deed((), [0, 1], [0, 0])] * 2, STATES), [0, 1, 6, 0])

    def test_dead_plays_are_dead_before_they_are_stuck(self):
        calls = [house(1), deed((), [0], [0]), deed((), [0], [0]), deed((), (), [0]), deed([1], (), [0])]
        # Once deed 1 took the thing, deeds 2 and 3 can still be done: four dead plays.
        self.assertEqual(tell(calls + [act(1, 0)]), [[0, 1, 4, 4], [0, 1], [0, 0], [0, 1]])
        self.assertEqual(tell(calls), [[0, 1, 8, 4], [0, 0], [0, 1, 0, 0], [0, 1, 1, 0]])

    def test_a_play_with_the_end_done_is_not_dead_though_stuck(self):
        self.assertEqual(tell([house(), deed(), deed([9]), act(0)]), [[0, 1, 1, 0], [0, 0], [0, 1], [0, 0]])


class WayTest(unittest.TestCase):
    def test_fewest_steps(self):
        # By deeds 1, 2 and 3, or by deed 4 and 5.
        calls = [house(), deed([3, -1, 5]), deed(), deed([1]), deed([2]), deed(), deed([4])]
        self.assertEqual(last(*calls, WAY), [0, 1, 4, -1, 5, -1, 0, -1])

    def test_first_by_the_deeds_number(self):
        calls = [house(), deed([3, -1, 2]), deed(), deed(), deed([1])]
        self.assertEqual(last(*calls, WAY), [0, 1, 2, -1, 0, -1])
        calls = [house(), deed([1, 2]), deed(), deed()]
        self.assertEqual(last(*calls, WAY), [0, 1, 1, -1, 2, -1, 0, -1])

    def test_first_by_the_kind(self):
        self.assertEqual(last(house(1, 1, 1), deed((), [1, 2], [0] * 3), WAY), [0, 1, 0, 1])
        self.assertEqual(last(house(1, 0, 1), deed((), [0, 1, 2], [0] * 3), WAY), [0, 1, 0, 0])
        self.assertEqual(last(house(0, 0, 1), deed((), [0, 1, 2], [0] * 3), WAY), [0, 1, 0, 2])

    def test_the_kind_that_keeps_the_end_open(self):
        calls = [house(1, 1), deed([1], [0], [0, 0]), deed((), [0, 1], [0, 0])]
        self.assertEqual(last(*calls, WAY), [0, 1, 1, 1, 0, 0])
        self.assertEqual(last(*calls, DOOM), [0, 1, 1, 0])

    def test_gifts_on_the_way(self):
        calls = [house(0, 0), deed((), [1], [0, 0]), deed((), [0], [0, 1]), deed((), (), [1, 0])]
        self.assertEqual(last(*calls, WAY), [0, 1, 2, -1, 1, 0, 0, 1])

    def test_all_sixteen(self):
        calls = [house()] + [deed([d + 1]) for d in range(15)] + [deed()]
        self.assertEqual(last(*calls, WAY), [0, 1] + [number for d in range(15, -1, -1) for number in (d, -1)])
        self.assertEqual(last(*calls, STATES), [0, 1, 17, 0])

    def test_doom_without_kinds(self):
        calls = [house(1), deed([1], [0], [0]), deed(gives=[0]), deed(gives=[0]), deed([2, 1], [0], [0])]
        self.assertEqual(last(*calls, DOOM), [0, 1, 1, -1, 2, -1, 3, 0])

    def test_doom_past_a_play_in_which_the_end_is_done(self):
        # The end is done or the thing is lost, in one step each; the dead play stands behind the other.
        calls = [house(1), deed((), [0], [0]), deed((), [0], [0])]
        self.assertEqual(tell(calls), [[0, 1, 3, 1], [0, 0], [0, 1, 0, 0], [0, 1, 1, 0]])

    def test_no_doom(self):
        self.assertEqual(last(house(2), deed((), [0], [0]), deed((), [0], [0]), DOOM), [0, 0])


class MustTest(unittest.TestCase):
    def tell_must(self, calls, count):
        return [answer[1] for answer in ask(*calls, *[must(d) for d in range(count)])[len(calls):]]

    def test_either_way(self):
        calls = [house(), deed([1, 2, -1, 1, 3]), deed(), deed(), deed(), deed()]
        self.assertEqual(self.tell_must(calls, 5), [1, 1, 0, 0, 0])

    def test_what_is_done_already_stays_done(self):
        calls = [house(), deed([1, 2]), deed(), deed()]
        self.assertEqual(self.tell_must(calls + [act(1)], 3), [1, 0, 1])
        self.assertEqual(self.tell_must(calls + [act(1), act(2)], 3), [1, 0, 0])

    def test_the_end_is_done_already(self):
        calls = [house(), deed([1, 2]), deed(), deed(), deed(), act(1), act(2), act(0)]
        self.assertEqual(self.tell_must(calls, 4), [0, 0, 0, 0])

    def test_the_end_cannot_be_done_at_all(self):
        self.assertEqual(self.tell_must([house(), deed([9]), deed()], 2), [1, 1])
        self.assertEqual(self.tell_must(DOOR_AND_BOX + [act(2, 0)], 3), [1, 1, 1])

    def test_once_a_way_is_shut(self):
        calls = [house(1), deed([1, -1, 2], (), [0]), deed((), [0], [0]), deed((), (), [0]), deed((), [0], [0])]
        self.assertEqual(self.tell_must(calls, 4), [1, 0, 0, 0])
        self.assertEqual(self.tell_must(calls + [act(3, 0)], 4), [1, 0, 1, 0])

    def test_gifts(self):
        calls = [house(0), deed((), [0], [0]), deed((), (), [1]), deed((), (), [0])]
        self.assertEqual(self.tell_must(calls, 3), [1, 1, 0])
        self.assertEqual(self.tell_must([house(1)] + calls[1:], 3), [1, 0, 0])

    def test_again(self):
        calls = [house(), deed([1]), deed(), act(1)]
        self.assertEqual(ask(*calls, must(1), AGAIN, must(1))[4:], [[0, 0], [0], [0, 1]])

    def test_ranges(self):
        full = chains(16)
        for d in (0, 15):
            self.assertEqual(last(*full, must(d)), [0, int(d == 0)], d)
        for d in (-1, 16, BIG, -BIG):
            self.assertEqual(last(*full, must(d)), [-1], d)

    def test_no_such_deed(self):
        self.assertEqual(last(house(), must(0)), [-3])
        self.assertEqual(last(house(), deed(), must(1)), [-3])
        self.assertEqual(last(house(), deed(), must(15)), [-3])


class NoRowTest(unittest.TestCase):
    NO_ROW = [[0, 0], [-9], [-9], [-9]]

    def test_200_plays(self):
        self.assertEqual(tell(ROW_OF_200), [[0, 1, 200, 0], [0, 0], [0, 1, 0, -1], [0, 0]])

    def test_201_plays(self):
        self.assertEqual(tell(ROW_OF_201), self.NO_ROW)

    def test_200_dead_plays(self):
        calls = chains(4, 4, 1, 1, 1, ahead=[deed([0])])
        self.assertEqual(tell(calls), [[0, 1, 200, 200], [0, 1], [0, 0], [0, 1]])
        self.assertEqual(tell(calls + [deed(range(1, 12))]), self.NO_ROW)

    def test_200_plays_by_their_things(self):
        # Done with each of four kinds deed 1 leaves other things: five plays, as by a chain of four.
        calls = [house(1, 1, 1, 1), deed((), (), [0] * 4), deed((), [0, 1, 2, 3], [0] * 4)]
        calls += [deed(needs, (), [0] * 4) for needs in [(), (2,), (3,), (4,), (), ()]]
        self.assertEqual(tell(calls), [[0, 1, 200, 0], [0, 0], [0, 1, 0, -1], [0, 0]])
        self.assertEqual(tell(calls + [deed([0, 1, 5, 6, 7], [3], [0] * 4)]), self.NO_ROW)

    def test_far_more_plays(self):
        self.assertEqual(tell([house()] + [deed()] * 16), self.NO_ROW)
        full = [house(*[20] * 5)] + [deed((), range(5), [9] * 5)] * 16
        self.assertEqual(tell(full), self.NO_ROW)

    def test_also_if_the_end_is_done_already(self):
        calls = [house()] + [deed()] * 9 + [act(0)]
        self.assertEqual(tell(calls), self.NO_ROW)
        self.assertEqual(tell(calls + [act(1)]), [[0, 1, 128, 0], [0, 0], [0, 1], [0, 0]])

    def test_a_row_comes_about_by_playing_on(self):
        self.assertEqual(tell(ROW_OF_201 + [act(0)]), [[0, 1, 161, 0], [0, 0], [0, 1], [0, 0]])
        self.assertEqual(tell(ROW_OF_201 + [act(0), AGAIN]), self.NO_ROW)

    def test_must_is_of_the_row_without_the_deed(self):
        # The row without deed 15 has just 200 plays; that without deed 14 has fewer still.
        self.assertEqual(ask(*ROW_OF_201, DEAD, must(15), must(14), must(0))[17:], [[-9], [0, 0], [0, 0], [0, 1]])

    def test_must_of_a_row_of_201(self):
        # Deed 11 can't ever be done, so the row without it is as long as the one with it.
        calls = chains(4, 4, 1, 1, 1) + [deed([11])]
        self.assertEqual(ask(*calls, STATES, must(11))[13:], [[0, 1, 200, 0], [0, 0]])
        calls += [deed(range(11))]
        self.assertEqual(ask(*calls, STATES, must(11), must(12))[14:], [[0, 0], [-9], [0, 0]])

    def test_must_where_one_deed_opens_too_much(self):
        # Deed 1 is all that's behind the others: without it the row has one play, with it far too many.
        calls = [house()] + [deed([1])] + [deed()] + [deed([1])] * 8
        told = ask(*calls, STATES, must(1), must(2), must(0))[11:]
        self.assertEqual(told, [[0, 0], [0, 1], [-9], [-9]])

    def test_must_of_a_deed_that_is_done(self):
        calls = [house()] + [deed([1])] + [deed()] + [deed([1])] * 8 + [act(1)]
        told = ask(*calls, must(1), act(0), must(1), must(0), act(2), must(1))[12:]
        self.assertEqual(told, [[-9], [0, 1], [-9], [-9], [0, 1], [0, 0]])


def houses_with_little_to_use(stride):
    """Houses of four deeds and two kinds in which things run out."""
    ends = [((1,), (0,), (0, 0)), ((1, -1, 2), (), (0, 0)), ((2, 3), (1,), (0, 0)), ((), (0, 1), (0, 0))]
    others = [((), (0,), (0, 0)), ((), (0, 1), (0, 0)), ((1,), (1,), (1, 0)), ((3,), (0, 1), (0, 1)),
              ((), (), (0, 1)), ((2, -1, 1), (0,), (0, 0))]
    choices = itertools.product(ends, others, others, others)
    for turn, deeds in enumerate(itertools.islice(choices, 0, None, stride)):
        yield [house(turn % 3, (turn + 1) % 2)] + [deed(*told) for told in deeds]


def large_houses(stride):
    """Houses of seven to ten deeds and two kinds, some of them too large for a row."""
    others = [((), (0, 1), (0, 0)), ((), (0,), (0, 0)), ((6, -1, 1), (1,), (0, 1)), ((), (), (1, 0)),
              ((3, -1, 2), (0, 1), (0, 0))]
    for turn, deeds in enumerate(every(others, 6, stride)):
        end = deed([5, 6, -1, 3, 4], [turn % 2], [0, 0])
        more = [deed((), told, (0, 0)) for told in [(), (), (1,)][turn % 3:]]
        yield [house(1 + turn % 3, turn % 2), end] + [deed(*told) for told in deeds] + more


class PromiseFiveTest(unittest.TestCase):
    """States, dead, way, doom and must against all plays gone through depth first."""

    def check_way(self, calls, play, answer, onward, goals):
        """Whether the answer is the told way to the first goal, and act plays it to one."""
        way = first_way(onward, goals, play)
        if way is None:
            self.assertEqual(answer, [0, 0], calls)
            return
        self.assertEqual(answer, [0, 1] + [number for step in way for number in step], calls)
        self.assertEqual(len(way), distances(onward, goals)[play], calls)
        acts = [act(d, kind) for d, kind in pairs(answer[2:])]
        told = ask(*calls, *acts, NOW, DEAD)[len(calls):]
        self.assertTrue(all(one[0] == 0 for one in told), calls)
        done = tuple(told[-2][2:2 + told[-2][1]])
        self.assertIn((done, tuple(told[-2][2 + len(done):])), goals, calls)
        self.assertEqual(told[-1], [0, int(0 not in done)], calls)

    def check(self, calls, start):
        """All that's told in the play that these calls come to."""
        model = Model([call for call in calls if call[0] < 2])
        onward = model.onward(start)
        dead = dead_plays(onward)
        states, is_dead, way, doom = tell(calls)
        if len(onward) > 200:
            self.assertEqual([states, is_dead, way, doom], NoRowTest.NO_ROW, calls)
        else:
            self.assertEqual(states, [0, 1, len(onward), len(dead)], calls)
            self.assertEqual(is_dead, [0, int(start in dead)], calls)
            self.check_way(calls, start, way, onward, with_end(onward))
            self.check_way(calls, start, doom, onward, dead)
        for d, answer in enumerate(ask(*calls, *[must(d) for d in sorted(model.deeds)])[len(calls):]):
            without = model.onward(start, d)
            wanted = [0, int(len(with_end(without)) == 0)]
            self.assertEqual(answer, wanted if len(without) <= 200 else [-9], (calls, d))
        return len(onward), len(dead)

    def check_from(self, calls, stride):
        """From the beginning, and from each stride-th of the plays that come about."""
        start = Model(calls).start
        onward = Model(calls).onward(start)
        found = []
        for play in [start] + list(onward)[1::stride]:
            acts = [act(d, kind) for d, kind in first_way(onward, {play}, start)]
            found.append(self.check(calls + acts, play))
        return found

    def test_houses(self):
        for calls in houses():
            self.check_from(calls, 7)

    def test_houses_with_little_to_use(self):
        found = [told for calls in houses_with_little_to_use(2) for told in self.check_from(calls, 5)]
        self.assertGreater(sum(1 for plays, dead in found if 0 < dead < plays), 50)
        self.assertGreater(sum(1 for plays, dead in found if dead == 0), 50)
        self.assertGreater(sum(1 for plays, dead in found if dead == plays), 50)

    def test_houses_about_as_large_as_a_row(self):
        found = [self.check(calls, Model(calls).start) for calls in large_houses(211)]
        self.assertGreater(sum(1 for plays, dead in found if plays > 200), 10)
        self.assertGreater(sum(1 for plays, dead in found if 50 < plays < 200 and 0 < dead < plays), 10)

    def test_accepted_ranks_leave_no_dead_play(self):
        some = 0
        for calls in houses():
            ranks, states = ask(*calls, RANKS, STATES)[len(calls):]
            if 0 not in ranks[1:] and states[1] == 1:
                some += 1
                self.assertEqual(states[3], 0, calls)
        self.assertGreater(some, 20)


if __name__ == "__main__":
    unittest.main()
