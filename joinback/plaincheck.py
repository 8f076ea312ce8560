"""Checkers of numbers, rings, ways and parted names.

What they are to check is of any kind: its form is looked at ahead of all else.
"""

from joinback.steps import counted, ends, led, steps_of


def is_number(thing):
    """Whether a thing of any kind is a whole number; True and False are none."""
    return isinstance(thing, int) and not isinstance(thing, bool)


def is_listed(thing):
    """Whether a thing of any kind does where a list is asked for."""
    return isinstance(thing, (list, tuple))


def is_couple(thing):
    """Whether a thing of any kind is a tuple of two things."""
    return isinstance(thing, tuple) and len(thing) == 2


def is_number_row(thing):
    """Whether a thing of any kind is a pair of a text and a number."""
    return is_couple(thing) and isinstance(thing[0], str) and is_number(thing[1])


def is_pair(thing):
    """Whether a thing of any kind is a pair of a number and a side."""
    return is_couple(thing) and is_number(thing[0]) and is_number(thing[1]) and thing[1] in (1, -1)


def is_way(thing):
    """Whether a thing of any kind is a tuple of pairs; where it leads is for led to tell."""
    return isinstance(thing, tuple) and all([is_pair(pair) for pair in thing])


def are_unlike(things):
    """Whether none of some numbers or texts stands twice."""
    return len(set(things)) == len(things)


def names_met(joinings, way):
    """The names at which the pairs of a way end, in their order."""
    return [ends(joinings[number], side)[1] for number, side in way]


def shows_numbers(names, joinings, turn, rows):
    """Whether rows give each of names once, with numbers that come out at all joinings."""
    if not is_listed(rows) or not all([is_number_row(row) for row in rows]):
        return False
    if sorted([name for name, number in rows]) != sorted(names):
        return False
    numbers = dict(rows)
    return all([counted(turn, numbers[one] + step - numbers[other]) == 0 for one, other, step in joinings])


def shows_ring(names, joinings, turn, name, ring):
    """Whether it is a ring from the name whose steps don't come to nought."""
    if name not in names or not is_way(ring) or len(ring) == 0:
        return False
    if led(joinings, name, ring) != name:
        return False
    if not are_unlike([number for number, side in ring]) or not are_unlike(names_met(joinings, ring)):
        return False
    return steps_of(joinings, turn, ring) != 0


def shows_way(joinings, one, other, way):
    """Whether it is a straight way from one to other."""
    if not is_way(way) or led(joinings, one, way) != other:
        return False
    return are_unlike([one] + names_met(joinings, way))


def parts(joinings, one, other, some):
    """Whether unlike names have one among them, other not, and no joining leads out of them."""
    if not are_unlike(some) or one not in some or other in some:
        return False
    return all([(begin in some) == (end in some) for begin, end, step in joinings])


def shows_parted(names, joinings, one, other, some):
    """Whether some are unlike ones of names that part one from other."""
    if not is_listed(some) or not all([name in names for name in some]):
        return False
    return parts(joinings, one, other, some)
