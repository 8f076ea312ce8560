"""Steps and ways: where a way leads, and how many steps it has.

A joining is a tuple (one, other, step), a way a tuple of pairs (number, side).
"""


def counted(turn, n):
    """The steps n as they are counted by a turn."""
    if turn == 0:
        return n
    return n % turn


def ends(joining, side):
    """The two names of a joining, the one that this side begins at first."""
    one, other, step = joining
    if side == 1:
        return (one, other)
    return (other, one)


def led(joinings, name, way):
    """The name to which a way leads from a name, or None where it breaks off."""
    here = name
    for number, side in way:
        # A place below nought would be counted from the list's end.
        if number < 0 or number >= len(joinings):
            return None
        begin, end = ends(joinings[number], side)
        if begin != here:
            return None
        here = end
    return here


def steps_of(joinings, turn, way):
    """The steps of a way together, those gone back taken off."""
    total = 0
    for number, side in way:
        one, other, step = joinings[number]
        total += side * step
    return counted(turn, total)
