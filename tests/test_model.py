"""Small houses, told the same by the program and by the document's words in another form."""

import itertools
import unittest

from tests.helper import (CAN, CLOSURE, NOW, RANKS, accepts, ask, deed, done_in, every, house,
                          houses_of_one_kind, houses_of_two_kinds, last, plays_from, sure)


class Model:
    """A house out of the calls that build it: sets of deeds throughout."""

    def __init__(self, calls):
        self.first = calls[0][2:]
        self.needs = []
        self.uses = []
        self.gives = []
        for call in calls[1:]:
            rows = []
            at = 1
            while at < len(call):
                rows.append(call[at + 1:at + 1 + call[at]])
                at += 1 + call[at]
            words = " ".join(map(str, rows[0])).split("-1")
            self.needs.append([{int(word) for word in words_of_one.split()} for words_of_one in words])
            self.uses.append(set(rows[1]))
            self.gives.append(rows[2])
        self.deeds = set(range(len(self.needs)))

    def met(self, d, behind):
        return min(len(wanted - behind) for wanted in self.needs[d]) == 0

    def closure(self, done):
        larger = done | {d for d in self.deeds if self.met(d, done)}
        return done if larger == done else self.closure(larger)

    def sure(self, d, behind):
        rivals = sum(1 for other in self.deeds - {d} if self.uses[other] & self.uses[d])
        things = sum(self.first[kind] + sum(self.gives[giver][kind] for giver in behind)
                     for kind in self.uses[d])
        return self.met(d, behind) and (self.uses[d] == set() or things > rivals)

    def ranks(self):
        ranks = {}
        for rank in range(1, len(self.deeds) + 1):
            ranks.update({d: rank for d in self.deeds - set(ranks) if self.sure(d, set(ranks))})
        return [ranks.get(d, 0) for d in sorted(self.deeds)]

    def accepted(self, ranks):
        return all(self.sure(d, {other for other in self.deeds if ranks[other] < ranks[d]}) for d in self.deeds)

    def steps(self, done, things):
        kinds = [[-1] if self.uses[d] == set() else sorted(kind for kind in self.uses[d] if things[kind])
                 for d in sorted(self.deeds)]
        return [(d, kind) for d in sorted(self.deeds - done) if self.met(d, done) for kind in kinds[d]]


def houses():
    """Houses of both small families, and some of five deeds."""
    yield from houses_of_one_kind(37)
    yield from houses_of_two_kinds(701)
    options = [((), (0,), (0, 1)), ((0,), (1,), (1, 0)), ((1, -1, 2, 3), (0, 1), (0, 0)), ((4,), (), (0, 2)),
               ((0, -1, 4), (0,), (0, 1)), ((2, 1), (1,), (3, 0))]
    for turn, deeds in enumerate(every(options, 5, 97)):
        yield [house(turn % 3, turn % 4)] + [deed(*told) for told in deeds]


class ModelTest(unittest.TestCase):
    def test_sure_behind_every_set(self):
        for calls in houses():
            model = Model(calls)
            for size in range(len(model.deeds) + 1):
                for behind in itertools.combinations(sorted(model.deeds), size):
                    told = ask(*calls, *[sure(d, *behind) for d in sorted(model.deeds)])[len(calls):]
                    wanted = [[0, int(model.sure(d, set(behind)))] for d in sorted(model.deeds)]
                    self.assertEqual(told, wanted, (calls, behind))

    def test_ranks(self):
        for calls in houses():
            self.assertEqual(last(*calls, RANKS), [0] + Model(calls).ranks(), calls)

    def test_accepts(self):
        for calls in houses_of_one_kind(97):
            model = Model(calls)
            choices = list(itertools.product(range(3), repeat=3))
            told = ask(*calls, *[accepts(*ranks) for ranks in choices])[len(calls):]
            self.assertEqual(told, [[0, int(model.accepted(ranks))] for ranks in choices], calls)

    def test_can_and_closure_in_every_play(self):
        for calls in itertools.islice(houses(), 0, None, 5):
            model = Model(calls)
            steps, ways = plays_from(calls)
            for play in steps:
                done = set(done_in(play))
                things = play[2 + len(done):]
                self.assertEqual(steps[play], model.steps(done, things), (calls, play))
                told = ask(*calls, *ways[play], CAN, CLOSURE, NOW)[-2:]
                self.assertEqual(told, [[0] + sorted(model.closure(done)), list(play)], (calls, play))


if __name__ == "__main__":
    unittest.main()
