"""Classes and numbers, found by going through all joinings."""

from joinback.errors import Clash
from joinback.steps import counted, ends, steps_of


def names_with(joinings, one, other):
    """The rising list of the joinings' names and of these two, each once."""
    found = [one, other]
    for joining in joinings:
        found.extend(ends(joining, 1))
    return sorted(set(found))


def ends_by_name(names, joinings):
    """By name: the list of (number, side, end) of the joinings that lead from it."""
    leading = {name: [] for name in names}
    for number, (one, other, step) in enumerate(joinings):
        leading[one].append((number, 1, other))
        leading[other].append((number, -1, one))
    return leading


def ways_from(leading, start):
    """By name, of all that hang together with start: a straight way from start to it.

    It has fewest joinings, and is the first of such as tuples rise: ways wait
    by their lengths and then as they rise, and each name's joinings are gone
    through by rising numbers. The way to a name is the way to some other name
    and one joining more, so all of them together are a tree.
    """
    ways = {start: ()}
    waiting = [start]
    while waiting:
        name = waiting.pop(0)
        for number, side, end in leading[name]:
            if end not in ways:
                ways[end] = ways[name] + ((number, side),)
                waiting.append(end)
    return ways


def trees(names, joinings):
    """The list of the classes, by rising least names: each as the ways from its least name."""
    leading = ends_by_name(names, joinings)
    placed = {}
    found = []
    for name in sorted(names):
        # Names are gone through as they rise, so a new one is its class's least.
        if name not in placed:
            ways = ways_from(leading, name)
            placed.update(ways)
            found.append(ways)
    return found


def classes(names, joinings):
    """The rising list of the classes, each a rising list of names."""
    return [sorted(ways) for ways in trees(names, joinings)]


def tree_way(away, toward):
    """The straight way from where one way of a tree ends to where another one ends."""
    shared = 0
    while shared < len(away) and shared < len(toward) and away[shared] == toward[shared]:
        shared += 1
    back = [(number, -side) for number, side in reversed(away[shared:])]
    return tuple(back) + toward[shared:]


def numbers_of(names, joinings, turn):
    """("numbers", rows), or ("ring", name, ring) where the steps clash."""
    ways = {}
    for tree in trees(names, joinings):
        ways.update(tree)
    numbers = {name: steps_of(joinings, turn, ways[name]) for name in ways}
    for number, (one, other, step) in enumerate(joinings):
        # The tree's own joinings come out, so this one isn't in the way back.
        if counted(turn, numbers[one] + step - numbers[other]) != 0:
            return ("ring", one, ((number, 1),) + tree_way(ways[other], ways[one]))
    return ("numbers", sorted(numbers.items()))


def apart(names, joinings, turn, one, other):
    """The steps from one to other, None where they aren't together."""
    told = numbers_of(names, joinings, turn)
    if told[0] == "ring":
        raise Clash((told[1], told[2]))
    numbers = dict(told[1])
    for group in classes(names, joinings):
        if one in group and other in group:
            return counted(turn, numbers[other] - numbers[one])
    return None
