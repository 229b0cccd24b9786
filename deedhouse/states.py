"""The row of all plays that can come about, which of them are dead, and the ways to them."""

from deedhouse.plays import all_steps, is_end_done, play_after

MOST_PLAYS = 200

# What's told in the place of the deed that's left out where none is.
NO_DEED = -1


class NoRow(Exception):
    """There would be more plays in the row than it may have."""


class Entry:
    """A play in the row: the place it came from, the step taken there, and the places its own steps lead to."""

    def __init__(self, play, origin, taken):
        self.play = play
        self.origin = origin
        self.taken = taken
        self.onward = []


def mark_of(play):
    """What only this play has: what's done in it, and its things."""
    return (tuple(play.done), tuple(play.things))


def row_from(house, left_out):
    """The row of the plays that can come about from now on without the deed that's left out."""
    deeds = house.deeds
    row = [Entry(house.play, 0, None)]
    places = {mark_of(house.play): 0}
    at = 0
    while at < len(row):
        entry = row[at]
        for d, kind in all_steps(deeds, entry.play):
            if d != left_out:
                play = play_after(deeds, entry.play, d, kind)
                mark = mark_of(play)
                if mark not in places:
                    places[mark] = len(row)
                    row.append(Entry(play, at, (d, kind)))
                entry.onward.append(places[mark])
        if len(row) > MOST_PLAYS:
            raise NoRow()
        at = at + 1
    return row


def places_with_end(row):
    """The places of the plays in which the end is done."""
    return [at for at, entry in enumerate(row) if is_end_done(entry.play)]


def places_of_dead(row):
    """The places of the dead plays."""
    lives = [is_end_done(entry.play) for entry in row]
    # A step leads to a later place, so from behind all that a play leads to is known ahead of it.
    for at in range(len(row) - 1, -1, -1):
        if any([lives[place] for place in row[at].onward]):
            lives[at] = True
    return [at for at in range(len(row)) if not lives[at]]


def steps_to(row, place):
    """The steps by which the plays on the way to this place were put in."""
    steps = []
    while place > 0:
        steps.append(row[place].taken)
        place = row[place].origin
    steps.reverse()
    return steps
