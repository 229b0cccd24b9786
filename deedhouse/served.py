"""Which deeds are served by all the things that come, the told set, and a set's bound."""

from deedhouse.plays import NO_KIND
from deedhouse.ranks import count_things


def count_all(house, kinds):
    """How many things of the kinds there are at first and by all deeds' gifts."""
    return count_things(house, kinds, list(range(len(house.deeds))))


def put_in(row, deeds, d):
    """Puts the kinds that deed d uses, and that aren't in the row yet, there for it."""
    for kind in deeds[d].uses:
        if kind not in row:
            row[kind] = d


def row_of_kinds(deeds, serving, d):
    """The kinds in a row for deed d, each with the deed for which it was put there."""
    row = {}
    put_in(row, deeds, d)
    at = 0
    while at < len(row):
        kind = list(row)[at]
        for other in range(len(deeds)):
            if serving[other] == kind:
                put_in(row, deeds, other)
        at = at + 1
    return row


def first_free(row, serving, things):
    """The first kind in the row that has more things than deeds served by it, or none."""
    for kind in row:
        if things[kind] > serving.count(kind):
            return kind
    return NO_KIND


def hand_on(row, serving, kind):
    """Serves by the kind the deed it was put in the row for, and on with the kind that this one had."""
    while kind != NO_KIND:
        d = row[kind]
        before = serving[d]
        serving[d] = kind
        kind = before


def told_giving_out(house):
    """For each deed the kind that serves it, or none."""
    deeds = house.deeds
    things = [count_all(house, [kind]) for kind in range(len(house.first))]
    serving = [NO_KIND] * len(deeds)
    for d in range(len(deeds)):
        row = row_of_kinds(deeds, serving, d)
        hand_on(row, serving, first_free(row, serving, things))
    return serving


def told_set(house, serving):
    """The kinds in the rows of the deeds that aren't served, rising."""
    kinds = {}
    for d in range(len(house.deeds)):
        if serving[d] == NO_KIND:
            for kind in row_of_kinds(house.deeds, serving, d):
                kinds[kind] = True
    return sorted(kinds)


def uses_another(deed, kinds):
    """Whether the deed uses some kind that isn't among these."""
    return any([kind not in kinds for kind in deed.uses])


def bound_of(house, kinds):
    """How many deeds use some other kind, and the things of these kinds, together."""
    users = [deed for deed in house.deeds if uses_another(deed, kinds)]
    return len(users) + count_all(house, kinds)
