"""Ranks: which deeds are sure behind which, the told ranks, and which ranks are accepted."""

from deedhouse.plays import are_met


def share_a_kind(some, others):
    """Whether some kind is in both lists."""
    return any([kind in others for kind in some])


def rivals_of(deeds, d):
    """The other deeds that use at least one kind that deed d uses."""
    uses = deeds[d].uses
    return [other for other in range(len(deeds)) if other != d and share_a_kind(deeds[other].uses, uses)]


def count_things(house, kinds, givers):
    """How many things of the kinds there are at first and by the givers' gifts."""
    count = sum([house.first[kind] for kind in kinds])
    for giver in givers:
        count = count + sum([house.deeds[giver].gives[kind] for kind in kinds])
    return count


def is_sure(house, d, behind):
    """Whether deed d is sure behind these deeds."""
    deed = house.deeds[d]
    if not are_met(deed.needs, behind):
        return False
    if len(deed.uses) == 0:
        return True
    return count_things(house, deed.uses, behind) > len(rivals_of(house.deeds, d))


def told_ranks(house):
    """Each deed's told rank, or 0 for none."""
    size = len(house.deeds)
    ranks = [0] * size
    for rank in range(1, size + 1):
        # Only those of earlier rounds stand behind, so they're listed before the round begins.
        behind = [d for d in range(size) if ranks[d] > 0]
        for d in range(size):
            if ranks[d] == 0 and is_sure(house, d, behind):
                ranks[d] = rank
    return ranks


def are_accepted(house, ranks):
    """Whether there's a rank for each deed, and each is sure behind those of lesser rank."""
    if len(ranks) != len(house.deeds):
        return False
    for d, rank in enumerate(ranks):
        lesser = [other for other in range(len(ranks)) if ranks[other] < rank]
        if not is_sure(house, d, lesser):
            return False
    return True
