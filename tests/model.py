"""The document's words in another form: sets of deeds throughout, and plays gone through depth first."""

import itertools

from tests.helper import deed, every, house, houses_of_one_kind, houses_of_two_kinds


class Model:
    """A house out of the calls that build it."""

    def __init__(self, calls):
        self.first = calls[0][2:]
        self.needs = []
        self.uses = []
        self.gives = []
        for call in calls[1:]:
            rows = []
            at = 1
            while at < len(call):
                rows.append(call[at + 1:at + 1 + call[at]])
                at += 1 + call[at]
            words = " ".join(map(str, rows[0])).split("-1")
            self.needs.append([{int(word) for word in words_of_one.split()} for words_of_one in words])
            self.uses.append(set(rows[1]))
            self.gives.append(rows[2])
        self.deeds = set(range(len(self.needs)))
        self.start = ((), tuple(self.first))

    def met(self, d, behind):
        return min(len(wanted - behind) for wanted in self.needs[d]) == 0

    def closure(self, done):
        larger = done | {d for d in self.deeds if self.met(d, done)}
        return done if larger == done else self.closure(larger)

    def rivals(self, d):
        return {other for other in self.deeds - {d} if self.uses[other] & self.uses[d]}

    def things(self, kinds, givers):
        return sum(self.first[kind] + sum(self.gives[giver][kind] for giver in givers) for kind in kinds)

    def sure(self, d, behind):
        more = self.things(self.uses[d], behind) > len(self.rivals(d))
        return self.met(d, behind) and (self.uses[d] == set() or more)

    def ranks(self):
        ranks = {}
        for rank in range(1, len(self.deeds) + 1):
            ranks.update({d: rank for d in self.deeds - set(ranks) if self.sure(d, set(ranks))})
        return [ranks.get(d, 0) for d in sorted(self.deeds)]

    def accepted(self, ranks):
        return all(self.sure(d, {other for other in self.deeds if ranks[other] < ranks[d]}) for d in self.deeds)

    def steps(self, done, things):
        kinds = [[-1] if self.uses[d] == set() else sorted(kind for kind in self.uses[d] if things[kind])
                 for d in sorted(self.deeds)]
        return [(d, kind) for d in sorted(self.deeds - done) if self.met(d, done) for kind in kinds[d]]

    def after(self, play, step):
        """The play that a step leads to."""
        done, things = play
        d, used = step
        left = tuple(things[kind] + self.gives[d][kind] - (kind == used) for kind in range(len(things)))
        return tuple(sorted(done + (d,))), left

    def onward(self, start, left_out=None):
        """Each play that can come about, with what each of its steps leads to."""
        onward = {}
        waiting = [start]
        while waiting:
            play = waiting.pop()
            if play not in onward:
                steps = [step for step in self.steps(set(play[0]), play[1]) if step[0] != left_out]
                onward[play] = {step: self.after(play, step) for step in steps}
                waiting.extend(onward[play].values())
        return onward

    def bound(self, kinds):
        return sum(1 for uses in self.uses if uses - kinds) + self.things(kinds, self.deeds)

    def most_served(self):
        """How many deeds any giving out serves, all of them tried."""
        users = [sorted(uses) + [None] for uses in self.uses]
        most = 0
        for kinds in itertools.product(*users):
            if all(kinds.count(kind) <= self.things([kind], self.deeds) for kind in range(len(self.first))):
                most = max(most, len(kinds) - kinds.count(None))
        return most

    def giving_out(self):
        """The told giving out, a dict, and the told set."""
        serving = {}
        for d in sorted(self.deeds):
            line = self.line(d, serving)
            free = [kind for kind, asker in line
                    if self.things([kind], self.deeds) > list(serving.values()).count(kind)]
            if free:
                self.serve(d, free[0], dict(line), serving)
        stuck = [self.line(d, serving) for d in self.deeds - set(serving)]
        return serving, {kind for line in stuck for kind, asker in line}

    def line(self, d, serving):
        """The kinds in a row for deed d, each with the deed that it was put in for."""
        line = [(kind, d) for kind in sorted(self.uses[d])]
        for kind, asker in line:
            for other in sorted(serving):
                if serving[other] == kind:
                    line.extend((more, other) for more in sorted(self.uses[other] - set(dict(line))))
        return line

    def serve(self, d, kind, askers, serving):
        """Serves by this kind the deed that it was put in for, and so on till it's deed d."""
        asker = askers[kind]
        if asker != d:
            self.serve(d, serving[asker], askers, serving)
        serving[asker] = kind


def distances(onward, goals):
    """For each play how many steps it takes at least to come to one of the goals; infinity where none is come to."""
    far = {}

    def settle(play):
        if play not in far:
            further = [1 + settle(after) for after in onward[play].values()]
            far[play] = 0 if play in goals else min(further, default=float("inf"))
        return far[play]

    for play in onward:
        settle(play)
    return far


def first_way(onward, goals, play):
    """Of all ways with the fewest steps the one whose steps come first, by deed, then kind; None if there's none.

    Plays stand in the row as the first ways to them do, so that's the told way.
    """
    far = distances(onward, goals)
    if far[play] == float("inf"):
        return None
    way = []
    while play not in goals:
        step = min(step for step, after in onward[play].items() if far[after] == far[play] - 1)
        way.append(step)
        play = onward[play][step]
    return way


def with_end(onward):
    """The plays in which the end is done."""
    return {play for play in onward if 0 in play[0]}


def dead_plays(onward):
    """The plays from which the end can't be done."""
    far = distances(onward, with_end(onward))
    return {play for play in onward if far[play] == float("inf")}


def houses():
    """Houses of both small families, and some of five deeds."""
    yield from houses_of_one_kind(37)
    yield from houses_of_two_kinds(701)
    options = [((), (0,), (0, 1)), ((0,), (1,), (1, 0)), ((1, -1, 2, 3), (0, 1), (0, 0)), ((4,), (), (0, 2)),
               ((0, -1, 4), (0,), (0, 1)), ((2, 1), (1,), (3, 0))]
    for turn, deeds in enumerate(every(options, 5, 97)):
        yield [house(turn % 3, turn % 4)] + [deed(*told) for told in deeds]
