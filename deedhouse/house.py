"""A house of riddles: its kinds of things, its deeds, and the play as it is."""


class Deed:
    """What one deed needs (a list of sets), uses and gives."""

    def __init__(self, needs, uses, gives):
        self.needs = needs
        self.uses = uses
        self.gives = gives


class Play:
    """What's done, rising, and how many things there are of each kind."""

    def __init__(self, done, things):
        self.done = done
        self.things = things


class House:
    """How many things of each kind there are at first, the deeds, and the play."""

    def __init__(self, first):
        self.first = first
        self.deeds = []
        self.play = Play([], first)


class Line:
    """One line of calls: its house, or None as long as there's none."""

    def __init__(self):
        self.house = None
