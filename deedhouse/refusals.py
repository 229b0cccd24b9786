"""For each call the refusal that's due, or 0 for none.

In each function the refusals are looked for from the one nearest to 0 on:
so the first that's found is the one to be answered. That there's no row, the
furthest from 0, is found where the row is made, once nothing here is due.
"""

from deedhouse.plays import kinds_for

NONE_DUE = 0
NOT_AS_TOLD = -1
NO_HOUSE = -2
NO_SUCH = -3
DEEDS_FULL = -4
HOUSE_STANDS = -5
NOT_AS_MANY_AS_KINDS = -6
PLAY_BEGUN = -7
CANNOT_BE_DONE = -8
NO_ROW = -9

MOST_DEEDS = 16
MOST_KINDS = 5
LAST_DEED = 15
LAST_KIND = 4


def is_list_within(numbers, longest, least, most):
    """Whether the list is short enough, and all its numbers are in the range."""
    return len(numbers) <= longest and all([least <= number <= most for number in numbers])


def is_rising(numbers):
    """Whether each number is more than the one before it."""
    return all([numbers[at - 1] < numbers[at] for at in range(1, len(numbers))])


def is_deed_number(number):
    """Whether the number is in the range told for a deed."""
    return 0 <= number <= LAST_DEED


def refuse_house(house, given):
    """0 house."""
    if not is_list_within(given[0], MOST_KINDS, 0, 20):
        return NOT_AS_TOLD
    if house is not None:
        return HOUSE_STANDS
    return NONE_DUE


def is_deed_as_told(needs, uses, gives):
    """Whether a deed's three lists are as told, whatever house it's for."""
    if not is_list_within(needs, 40, -1, LAST_DEED):
        return False
    if not is_list_within(uses, MOST_KINDS, 0, LAST_KIND) or not is_rising(uses):
        return False
    return is_list_within(gives, MOST_KINDS, 0, 9)


def refuse_deed(house, given):
    """1 deed."""
    uses = given[1]
    gives = given[2]
    if not is_deed_as_told(given[0], uses, gives):
        return NOT_AS_TOLD
    if house is None:
        return NO_HOUSE
    kinds = len(house.first)
    if any([kind >= kinds for kind in uses]):
        return NO_SUCH
    if len(house.deeds) == MOST_DEEDS:
        return DEEDS_FULL
    if len(gives) != kinds:
        return NOT_AS_MANY_AS_KINDS
    if len(house.play.done) > 0:
        return PLAY_BEGUN
    return NONE_DUE


def refuse_act(house, given):
    """2 act."""
    d = given[0]
    kind = given[1]
    if not is_deed_number(d) or not -1 <= kind <= LAST_KIND:
        return NOT_AS_TOLD
    if house is None:
        return NO_HOUSE
    if d >= len(house.deeds):
        return NO_SUCH
    if kind not in kinds_for(house.deeds, house.play, d):
        return CANNOT_BE_DONE
    return NONE_DUE


def refuse_bare(house, given):
    """A call that nothing is handed to."""
    if house is None:
        return NO_HOUSE
    return NONE_DUE


def refuse_accepts(house, given):
    """8 accepts."""
    if not is_list_within(given[0], MOST_DEEDS, 0, 1000):
        return NOT_AS_TOLD
    return refuse_bare(house, given)


def refuse_sure(house, given):
    """9 sure."""
    d = given[0]
    behind = given[1]
    if not is_deed_number(d):
        return NOT_AS_TOLD
    if not is_list_within(behind, MOST_DEEDS, 0, LAST_DEED) or not is_rising(behind):
        return NOT_AS_TOLD
    if house is None:
        return NO_HOUSE
    if any([number >= len(house.deeds) for number in [d] + behind]):
        return NO_SUCH
    return NONE_DUE


def refuse_bound(house, given):
    """11 bound."""
    kinds = given[0]
    if not is_list_within(kinds, MOST_KINDS, 0, LAST_KIND) or not is_rising(kinds):
        return NOT_AS_TOLD
    if house is None:
        return NO_HOUSE
    if any([kind >= len(house.first) for kind in kinds]):
        return NO_SUCH
    return NONE_DUE


def refuse_deed_number(house, given):
    """A call that a deed's number alone is handed to."""
    d = given[0]
    if not is_deed_number(d):
        return NOT_AS_TOLD
    if house is None:
        return NO_HOUSE
    if d >= len(house.deeds):
        return NO_SUCH
    return NONE_DUE


REFUSALS = {
    0: refuse_house,
    1: refuse_deed,
    2: refuse_act,
    3: refuse_bare,
    4: refuse_bare,
    5: refuse_bare,
    6: refuse_bare,
    7: refuse_bare,
    8: refuse_accepts,
    9: refuse_sure,
    10: refuse_bare,
    11: refuse_bound,
    12: refuse_bare,
    13: refuse_bare,
    14: refuse_bare,
    15: refuse_bare,
    16: refuse_deed_number,
    17: refuse_deed_number,
    18: refuse_deed_number,
}


def refusal_of(house, number, given):
    """The refusal that's due for the call, or 0 for none."""
    refuse = REFUSALS[number]
    return refuse(house, given)
