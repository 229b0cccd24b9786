"""Calls written plainly, answers cut apart, and small houses to try promises on."""

import itertools

from deedhouse.deeds import answers

BIG = 10 ** 18


def row(numbers):
    return [len(numbers)] + list(numbers)


def house(*things):
    return [0] + row(things)


def deed(needs=(), uses=(), gives=()):
    return [1] + row(needs) + row(uses) + row(gives)


def act(d, kind=-1):
    return [2, d, kind]


AGAIN = [3]
NOW = [4]
CAN = [5]
CLOSURE = [6]
RANKS = [7]


def accepts(*ranks):
    return [8] + row(ranks)


def sure(d, *behind):
    return [9, d] + row(behind)


SERVED = [10]


def bound(*kinds):
    return [11] + row(kinds)


STATES = [12]
DEAD = [13]
WAY = [14]
DOOM = [15]


def must(d):
    return [16, d]


def look(d):
    return [17, d]


def rivals(d):
    return [18, d]


def cut(flat):
    """The answers one by one, without their counts."""
    told = []
    at = 0
    while at < len(flat):
        count = flat[at]
        assert 0 < count <= len(flat) - at - 1, flat
        told.append(flat[at + 1:at + 1 + count])
        at += 1 + count
    return told


def ask(*calls):
    """The answers to the calls, one by one."""
    told = cut(answers([number for call in calls for number in call]))
    assert len(told) == len(calls), (calls, told)
    return told


def last(*calls):
    """The last call's answer."""
    return ask(*calls)[-1]


def pairs(numbers):
    """A can answer's steps."""
    return list(zip(numbers[0::2], numbers[1::2]))


def plays_from(calls):
    """Every play that can come about: its can's steps, by what now tells, and the acts to it."""
    start = tuple(last(*calls, NOW))
    ways = {start: []}
    steps = {}
    waiting = [start]
    while waiting:
        play = waiting.pop()
        steps[play] = pairs(last(*calls, *ways[play], CAN)[1:])
        for d, kind in steps[play]:
            way = ways[play] + [act(d, kind)]
            after = tuple(last(*calls, *way, NOW))
            if after not in ways:
                ways[after] = way
                waiting.append(after)
    return steps, ways


def done_in(play):
    """The deeds done in a play as now tells it."""
    return list(play[2:2 + play[1]])


def every(options, times, stride):
    """Each stride-th choice of so many of the options."""
    return itertools.islice(itertools.product(options, repeat=times), 0, None, stride)


NEEDS = [(), (0,), (1,), (2,), (1, -1, 2), (0, 1)]


def houses_of_one_kind(stride):
    """Calls that build small houses: three deeds, one kind, up to three things."""
    options = list(itertools.product(NEEDS, [(), (0,)], [(0,), (2,)]))
    for turn, deeds in enumerate(every(options, 3, stride)):
        yield [house(turn % 4)] + [deed(*told) for told in deeds]


def houses_of_two_kinds(stride):
    """Calls that build small houses: three deeds, two kinds."""
    uses = [(), (0,), (1,), (0, 1)]
    options = list(itertools.product(NEEDS, uses, [(0, 0), (1, 0), (0, 3)]))
    for turn, deeds in enumerate(every(options, 3, stride)):
        yield [house(turn % 3, turn // 3 % 3)] + [deed(*told) for told in deeds]
