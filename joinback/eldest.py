"""The joinings that hold: each that joins what the ones ahead of it left apart."""

from joinback.plain import ends_by_name, names_with, ways_from


def eldest(names, joinings):
    """The rising list of the numbers of the joinings that hold."""
    head = {name: name for name in names}
    held = []
    for number, (one, other, step) in enumerate(joinings):
        old, new = head[one], head[other]
        if old != new:
            held.append(number)
            head = {name: new if head[name] == old else head[name] for name in head}
    return held


def eldest_way(joinings, one, other):
    """The straight way from one to other by joinings that hold, or None."""
    names = names_with(joinings, one, other)
    held = eldest(names, joinings)
    leading = ends_by_name(names, joinings)
    by_held = {name: [row for row in leading[name] if row[0] in held] for name in names}
    return ways_from(by_held, one).get(other)


def since(joinings, one, other):
    """The least number up to which the joinings bring one and other together, -1 or None."""
    way = eldest_way(joinings, one, other)
    if way is None:
        return None
    return max([number for number, side in way], default=-1)


def in_place_of(names, joinings, n):
    """What holds where n is left out: its number, None without; -1 where n doesn't hold."""
    held = eldest(names, joinings)
    if n not in held:
        return -1
    rest = list(joinings)
    name = rest[n][0]
    # A name's joining with itself never holds, and the others keep their numbers.
    rest[n] = (name, name, 0)
    for number in eldest(names, rest):
        if number not in held:
            return number
    return None


def needed(names, joinings):
    """The rising list of the numbers without which there were more classes."""
    return [n for n in range(len(joinings)) if in_place_of(names, joinings, n) is None]
