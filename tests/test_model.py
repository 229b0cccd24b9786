"""Small houses, told the same by the program and by the document's words in another form."""

import itertools
import unittest

from tests.helper import (CAN, CLOSURE, NOW, RANKS, accepts, ask, done_in, houses_of_one_kind, last,
                          plays_from, sure)
from tests.model import Model, houses


class ModelTest(unittest.TestCase):
    def test_sure_behind_every_set(self):
        for calls in houses():
            model = Model(calls)
            for size in range(len(model.deeds) + 1):
                for behind in itertools.combinations(sorted(model.deeds), size):
                    told = ask(*calls, *[sure(d, *behind) for d in sorted(model.deeds)])[len(calls):]
                    wanted = [[0, int(model.sure(d, set(behind)))] for d in sorted(model.deeds)]
                    self.assertEqual(told, wanted, (calls, behind))

    def test_ranks(self):
        for calls in houses():
            self.assertEqual(last(*calls, RANKS), [0] + Model(calls).ranks(), calls)

    def test_accepts(self):
        for calls in houses_of_one_kind(97):
            model = Model(calls)
            choices = list(itertools.product(range(3), repeat=3))
            told = ask(*calls, *[accepts(*ranks) for ranks in choices])[len(calls):]
            self.assertEqual(told, [[0, int(model.accepted(ranks))] for ranks in choices], calls)

    def test_can_and_closure_in_every_play(self):
        for calls in itertools.islice(houses(), 0, None, 5):
            model = Model(calls)
            steps, ways = plays_from(calls)
            for play in steps:
                done = set(done_in(play))
                things = play[2 + len(done):]
                self.assertEqual(steps[play], model.steps(done, things), (calls, play))
                told = ask(*calls, *ways[play], CAN, CLOSURE, NOW)[-2:]
                self.assertEqual(told, [[0] + sorted(model.closure(done)), list(play)], (calls, play))


if __name__ == "__main__":
    unittest.main()
