"""The calls on one line, one behind another, and what they answer."""

from deedhouse.house import Deed, House, Line, Play
from deedhouse.plays import all_steps, closure_of, play_after
from deedhouse.ranks import are_accepted, is_sure, told_ranks
from deedhouse.reading import cut_calls, cut_needs
from deedhouse.refusals import NONE_DUE, refusal_of


def as_number(truth):
    """1 for what's so, 0 for what isn't."""
    if truth:
        return 1
    return 0


def do_house(line, given):
    """0 house: the kinds are told, and with them there's a house."""
    line.house = House(given[0])
    return []


def do_deed(line, given):
    """1 deed: one more deed; its number is told."""
    deeds = line.house.deeds
    deeds.append(Deed(cut_needs(given[0]), given[1], given[2]))
    return [len(deeds) - 1]


def do_act(line, given):
    """2 act: a deed is done; whether the end is done now is told."""
    house = line.house
    house.play = play_after(house.deeds, house.play, given[0], given[1])
    return [as_number(0 in house.play.done)]


def do_again(line, given):
    """3 again: nothing is done, and things are as at first."""
    house = line.house
    house.play = Play([], house.first)
    return []


def tell_now(line, given):
    """4 now: what's done, and what things there are."""
    play = line.house.play
    return [len(play.done)] + play.done + play.things


def tell_can(line, given):
    """5 can: all steps."""
    house = line.house
    told = []
    for d, kind in all_steps(house.deeds, house.play):
        told.append(d)
        told.append(kind)
    return told


def tell_closure(line, given):
    """6 closure: the closure of what's done."""
    house = line.house
    return closure_of(house.deeds, house.play.done)


def tell_ranks(line, given):
    """7 ranks: each deed's told rank."""
    return told_ranks(line.house)


def tell_accepts(line, given):
    """8 accepts: whether these ranks are accepted."""
    return [as_number(are_accepted(line.house, given[0]))]


def tell_sure(line, given):
    """9 sure: whether the deed is sure behind these."""
    return [as_number(is_sure(line.house, given[0], given[1]))]


CALLS = {
    0: do_house,
    1: do_deed,
    2: do_act,
    3: do_again,
    4: tell_now,
    5: tell_can,
    6: tell_closure,
    7: tell_ranks,
    8: tell_accepts,
    9: tell_sure,
}


def answer_call(line, number, given):
    """The answer to one call: 0 and what's told, or the refusal alone."""
    refusal = refusal_of(line.house, number, given)
    if refusal != NONE_DUE:
        return [refusal]
    call = CALLS[number]
    return [0] + call(line, given)


def answers(calls):
    """The answers to all the calls, each with its count of numbers ahead of it."""
    line = Line()
    told = []
    for number, given in cut_calls(calls):
        answer = answer_call(line, number, given)
        told.append(len(answer))
        told.extend(answer)
    return told
