"""The list that's handed in, cut into calls, and a deed's needs, cut into sets."""

# What each call hands in behind its number.
SHAPES = {
    0: ("row",),
    1: ("row", "row", "row"),
    2: ("number", "number"),
    3: (),
    4: (),
    5: (),
    6: (),
    7: (),
    8: ("row",),
    9: ("number", "row"),
    10: (),
    11: ("row",),
    12: (),
    13: (),
    14: (),
    15: (),
    16: ("number",),
    17: ("number",),
    18: ("number",),
}


def cut_calls(calls):
    """Each call as its number and the list of what's handed in behind it."""
    cut = []
    at = 0
    while at < len(calls):
        number = calls[at]
        at = at + 1
        given = []
        for shape in SHAPES[number]:
            end = at + 1
            if shape == "row":
                end = end + calls[at]
                given.append(calls[at + 1:end])
            else:
                given.append(calls[at])
            at = end
        cut.append((number, given))
    return cut


def cut_needs(numbers):
    """The sets of deeds that stand between the -1s; no numbers are one empty set."""
    sets = [[]]
    for number in numbers:
        if number == -1:
            sets.append([])
        else:
            sets[-1].append(number)
    return sets
