"""Ways with fewest joinings, and the names by how many joinings off they are."""

from joinback.plain import ends_by_name, names_with, ways_from


def fewest_ways(joinings, one, other):
    """By name, of all that hang together with one: the first of the fewest ways from one to it."""
    return ways_from(ends_by_name(names_with(joinings, one, other), joinings), one)


def fewest_way(joinings, one, other):
    """Of the ways from one to other with fewest joinings the first, or None."""
    return fewest_ways(joinings, one, other).get(other)


def levels_of(joinings, one, other):
    """The rising lists of the names that are 0, 1, 2 .. joinings from one, nearer than other; or None."""
    ways = fewest_ways(joinings, one, other)
    if other not in ways:
        return None
    levels = [[] for pair in ways[other]]
    for name in sorted(ways):
        away = len(ways[name])
        if away < len(levels):
            levels[away].append(name)
    return levels
