"""The calls on one line, one behind another, and what they answer."""

from deedhouse.house import Deed, House, Line, Play
from deedhouse.plays import NO_KIND, all_steps, closure_of, is_end_done, play_after
from deedhouse.ranks import are_accepted, is_sure, rivals_of, told_ranks
from deedhouse.reading import cut_calls, cut_needs
from deedhouse.refusals import NONE_DUE, NO_ROW, refusal_of
from deedhouse.served import bound_of, count_all, told_giving_out, told_set
from deedhouse.states import NO_DEED, NoRow, places_of_dead, places_with_end, row_from, steps_to


def as_number(truth):
    """1 for what's so, 0 for what isn't."""
    if truth:
        return 1
    return 0


def flat(pairs):
    """The numbers of all the pairs, one behind another."""
    numbers = []
    for pair in pairs:
        numbers.extend(pair)
    return numbers


def do_house(line, given):
    """0 house: the kinds are told, and with them there's a house."""
    line.house = House(given[0])
    return []


def do_deed(line, given):
    """1 deed: one more deed; its number is told."""
    deeds = line.house.deeds
    deeds.append(Deed(cut_needs(given[0]), given[1], given[2]))
    return [len(deeds) - 1]


def do_act(line, given):
    """2 act: a deed is done; whether the end is done now is told."""
    house = line.house
    house.play = play_after(house.deeds, house.play, given[0], given[1])
    return [as_number(is_end_done(house.play))]


def do_again(line, given):
    """3 again: nothing is done, and things are as at first."""
    house = line.house
    house.play = Play([], house.first)
    return []


def tell_now(line, given):
    """4 now: what's done, and what things there are."""
    play = line.house.play
    return [len(play.done)] + play.done + play.things


def tell_can(line, given):
    """5 can: all steps."""
    house = line.house
    return flat(all_steps(house.deeds, house.play))


def tell_closure(line, given):
    """6 closure: the closure of what's done."""
    house = line.house
    return closure_of(house.deeds, house.play.done)


def tell_ranks(line, given):
    """7 ranks: each deed's told rank."""
    return told_ranks(line.house)


def tell_accepts(line, given):
    """8 accepts: whether these ranks are accepted."""
    return [as_number(are_accepted(line.house, given[0]))]


def tell_sure(line, given):
    """9 sure: whether the deed is sure behind these."""
    return [as_number(is_sure(line.house, given[0], given[1]))]


def tell_served(line, given):
    """10 served: the told giving out, and the told set."""
    house = line.house
    serving = told_giving_out(house)
    pairs = [(d, kind) for d, kind in enumerate(serving) if kind != NO_KIND]
    return [len(pairs)] + flat(pairs) + told_set(house, serving)


def tell_bound(line, given):
    """11 bound: that of these kinds."""
    return [bound_of(line.house, given[0])]


def tell_states(line, given):
    """12 states: how many plays the row has, and how many are dead."""
    try:
        row = row_from(line.house, NO_DEED)
    except NoRow:
        return [0]
    return [1, len(row), len(places_of_dead(row))]


def tell_dead(line, given):
    """13 dead: whether the play as it is, the first in the row, is dead."""
    row = row_from(line.house, NO_DEED)
    return [as_number(0 in places_of_dead(row))]


def told_way(row, places):
    """The told way to the first of these places in the row, if there's any."""
    if len(places) == 0:
        return [0]
    return [1] + flat(steps_to(row, places[0]))


def tell_way(line, given):
    """14 way: the told way to the end."""
    row = row_from(line.house, NO_DEED)
    return told_way(row, places_with_end(row))


def tell_doom(line, given):
    """15 doom: the told way to a dead play."""
    row = row_from(line.house, NO_DEED)
    return told_way(row, places_of_dead(row))


def tell_must(line, given):
    """16 must: whether the end can't be done without the deed."""
    row = row_from(line.house, given[0])
    return [as_number(len(places_with_end(row)) == 0)]


def tell_look(line, given):
    """17 look: what the deed needs, uses and gives, as it was told."""
    deed = line.house.deeds[given[0]]
    told = [len(deed.needs)]
    for wanted in deed.needs:
        told.append(len(wanted))
        told.extend(wanted)
    return told + [len(deed.uses)] + deed.uses + deed.gives


def tell_rivals(line, given):
    """18 rivals: how many the deed has, and the things of the kinds that it uses."""
    house = line.house
    d = given[0]
    return [len(rivals_of(house.deeds, d)), count_all(house, house.deeds[d].uses)]


CALLS = {
    0: do_house,
    1: do_deed,
    2: do_act,
    3: do_again,
    4: tell_now,
    5: tell_can,
    6: tell_closure,
    7: tell_ranks,
    8: tell_accepts,
    9: tell_sure,
    10: tell_served,
    11: tell_bound,
    12: tell_states,
    13: tell_dead,
    14: tell_way,
    15: tell_doom,
    16: tell_must,
    17: tell_look,
    18: tell_rivals,
}


def answer_call(line, number, given):
    """The answer to one call: 0 and what's told, or the refusal alone."""
    refusal = refusal_of(line.house, number, given)
    if refusal != NONE_DUE:
        return [refusal]
    call = CALLS[number]
    # No refusal is further from 0 than that there's no row: so it may come up when the row is made.
    try:
        told = call(line, given)
    except NoRow:
        return [NO_ROW]
    return [0] + told


def answers(calls):
    """The answers to all the calls, each with its count of numbers ahead of it."""
    line = Line()
    told = []
    for number, given in cut_calls(calls):
        answer = answer_call(line, number, given)
        told.append(len(answer))
        told.extend(answer)
    return told
