"""The one list that's handed in, and the one that's given back."""

import unittest

from deedhouse.deeds import answers
from tests.helper import (AGAIN, CAN, CLOSURE, DEAD, DOOM, NOW, RANKS, SERVED, STATES, WAY, accepts, act, ask,
                          bound, cut, deed, house, last, look, must, rivals, sure)

ONE_OF_EACH = [
    house(1, 2),
    deed([1, -1, 2], [0, 1], [0, 1]),
    deed([], [1], [3, 0]),
    NOW, CAN, CLOSURE, RANKS,
    accepts(2, 1),
    sure(0, 1),
    SERVED,
    bound(0, 1),
    bound(),
    STATES, DEAD, WAY, DOOM,
    must(1),
    look(0),
    rivals(1),
    act(1, 1),
    NOW,
    WAY,
    act(0, 0),
    house(),
    AGAIN,
    NOW,
]


def flat(calls):
    return [number for call in calls for number in call]


class ListsTest(unittest.TestCase):
    def test_how_calls_stand(self):
        self.assertEqual(flat(ONE_OF_EACH), [
            0, 2, 1, 2,
            1, 3, 1, -1, 2, 2, 0, 1, 2, 0, 1,
            1, 0, 1, 1, 2, 3, 0,
            4, 5, 6, 7,
            8, 2, 2, 1,
            9, 0, 1, 1,
            10,
            11, 2, 0, 1,
            11, 0,
            12, 13, 14, 15,
            16, 1,
            17, 0,
            18, 1,
            2, 1, 1,
            4,
            14,
            2, 0, 0,
            0, 0,
            3,
            4])

    def test_how_answers_stand(self):
        self.assertEqual(answers(flat(ONE_OF_EACH)), [
            1, 0,
            2, 0, 0,
            2, 0, 1,
            4, 0, 0, 1, 2,
            3, 0, 1, 1,
            3, 0, 0, 1,
            3, 0, 2, 1,
            2, 0, 1,
            2, 0, 1,
            6, 0, 2, 0, 0, 1, 1,
            2, 0, 7,
            2, 0, 2,
            4, 0, 1, 4, 0,
            2, 0, 0,
            6, 0, 1, 1, 1, 0, 0,
            2, 0, 0,
            2, 0, 1,
            11, 0, 2, 1, 1, 1, 2, 2, 0, 1, 0, 1,
            3, 0, 1, 3,
            2, 0, 0,
            5, 0, 1, 1, 4, 1,
            4, 0, 1, 0, 0,
            2, 0, 1,
            1, -5,
            1, 0,
            4, 0, 0, 1, 2])

    def test_a_refusal_stands_alone(self):
        self.assertEqual(answers([4, 0, 1, 21, 1, 0, 0, 0]), [1, -2, 1, -1, 1, -2])

    def test_one_call(self):
        self.assertEqual(answers([0, 0]), [1, 0])
        self.assertEqual(answers([5]), [1, -2])

    def test_empty_answers(self):
        self.assertEqual(answers([0, 0, 5, 6, 7]), [1, 0, 1, 0, 1, 0, 1, 0])
        self.assertEqual(answers([0, 0, 10, 11, 0, 14]), [1, 0, 2, 0, 0, 2, 0, 0, 2, 0, 0])

    def test_refused_lists_are_passed_over_whole(self):
        fifty = [50] + [5] * 50
        calls = [0] + fifty + [1] + fifty * 3 + [8] + fifty + [9, 4] + fifty + [11] + fifty + [2, 3, 4, 0, 0, 4]
        self.assertEqual(answers(calls), [1, -1] * 5 + [1, -2, 1, 0, 2, 0, 0])

    def test_all_nineteen_calls(self):
        self.assertEqual({call[0] for call in ONE_OF_EACH}, set(range(19)))

    def test_kinds_of_what_is_given_back(self):
        told = answers(flat(ONE_OF_EACH))
        self.assertIs(list, type(told))
        self.assertEqual({int}, {type(number) for number in told})

    def test_sixty_calls(self):
        calls = [house(20)] + [deed([], [0], [9])] * 16 + [act(d, 0) for d in range(16)] + [NOW, AGAIN, CAN] * 9
        self.assertEqual(len(calls), 60)
        told = ask(*calls)
        self.assertEqual(told[33], [0, 16] + list(range(16)) + [20 + 16 * 8])
        self.assertEqual(told[-3], [0, 0, 20])
        self.assertEqual(told[-1], [0] + flat([d, 0] for d in range(16)))


class Fixed(list):
    """A list that nothing can be changed in, not for a while either."""

    def fail(self, *args, **kwargs):
        raise AssertionError("what was handed in is changed")

    __setitem__ = __delitem__ = __iadd__ = __imul__ = fail
    append = extend = insert = pop = remove = clear = sort = reverse = fail


class NothingKeptTest(unittest.TestCase):
    def test_nothing_is_changed_for_a_while_either(self):
        self.assertEqual(answers(Fixed(flat(ONE_OF_EACH))), answers(flat(ONE_OF_EACH)))

    def test_what_is_handed_in_is_as_it_was(self):
        calls = flat(ONE_OF_EACH)
        answers(calls)
        self.assertEqual(calls, flat(ONE_OF_EACH))

    def test_what_is_given_back_is_free(self):
        calls = flat(ONE_OF_EACH)
        told = answers(calls)
        kept = list(told)
        told.clear()
        self.assertEqual(answers(calls), kept)
        self.assertEqual(calls, flat(ONE_OF_EACH))

    def test_same_twice(self):
        calls = flat(ONE_OF_EACH)
        self.assertEqual(answers(calls), answers(calls))

    def test_each_list_begins_without_house(self):
        self.assertEqual(ask(house(1), deed((), (), [0])), [[0], [0, 0]])
        self.assertEqual(ask(NOW, deed((), (), [0]), house(2), NOW), [[-2], [-2], [0], [0, 0, 2]])
        self.assertEqual(last(house(), CAN), [0])

    def test_each_answer_is_as_for_the_calls_up_to_it(self):
        told = cut(answers(flat(ONE_OF_EACH)))
        for count in range(1, len(ONE_OF_EACH) + 1):
            self.assertEqual(cut(answers(flat(ONE_OF_EACH[:count]))), told[:count])


if __name__ == "__main__":
    unittest.main()
