"""What can be done in a play, what comes of it, and the closure of some deeds."""

from deedhouse.house import Play

# What's told in the place of a kind where a deed uses nothing.
NO_KIND = -1

# The deed that is the end.
END = 0


def is_end_done(play):
    """Whether the end is done in the play."""
    return END in play.done


def holds_all(behind, wanted):
    """Whether all the wanted deeds are among those behind."""
    for d in wanted:
        if d not in behind:
            return False
    return True


def are_met(needs, behind):
    """Whether the deeds behind hold all of some one of the sets."""
    for wanted in needs:
        if holds_all(behind, wanted):
            return True
    return False


def kinds_for(deeds, play, d):
    """The kinds, rising, with which deed d can be done."""
    deed = deeds[d]
    if d in play.done or not are_met(deed.needs, play.done):
        return []
    if len(deed.uses) == 0:
        return [NO_KIND]
    return [kind for kind in deed.uses if play.things[kind] > 0]


def all_steps(deeds, play):
    """Each step from the play: a deed and a kind, by the deed's number, then the kind's."""
    steps = []
    for d in range(len(deeds)):
        for kind in kinds_for(deeds, play, d):
            steps.append((d, kind))
    return steps


def play_after(deeds, play, d, kind):
    """The play that comes of doing deed d with the kind."""
    things = [had + given for had, given in zip(play.things, deeds[d].gives)]
    if kind != NO_KIND:
        things[kind] = things[kind] - 1
    return Play(sorted(play.done + [d]), things)


def closure_of(deeds, start):
    """The closure of the deeds at the start, rising."""
    reached = list(start)
    grows = True
    while grows:
        fresh = [d for d in range(len(deeds)) if d not in reached and are_met(deeds[d].needs, reached)]
        reached = reached + fresh
        grows = len(fresh) > 0
    return sorted(reached)
