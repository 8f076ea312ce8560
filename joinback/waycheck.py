"""Checkers of fewest ways, and of since when two names are together."""

from joinback.naming import is_name
from joinback.plaincheck import is_listed, is_number, parts, shows_way


def are_names(thing):
    """Whether a thing of any kind is a list of NAMEs."""
    return is_listed(thing) and all([is_name(name) for name in thing])


def first_places(levels):
    """By name: the place of the first of the lists that it stands in."""
    places = {}
    for place, level in enumerate(levels):
        for name in level:
            places.setdefault(name, place)
    return places


def shows_fewest(joinings, one, other, way, levels):
    """Whether it is a straight way from one to other, and levels show that none is shorter."""
    if not shows_way(joinings, one, other, way):
        return False
    if not is_listed(levels) or len(levels) != len(way) or not all([are_names(level) for level in levels]):
        return False
    many = len(levels)
    places = first_places(levels)
    if other in places or (many > 0 and places.get(one) != 0):
        return False
    # A name of no list counts as one behind the last: so nothing is asked of the last.
    return all([abs(places.get(begin, many) - places.get(end, many)) <= 1 for begin, end, step in joinings])


def shows_since(joinings, one, other, n, way, some):
    """Whether one and other are together by the joinings up to n, and not by fewer of them."""
    if not is_number(n) or not are_names(some) or not shows_way(joinings, one, other, way):
        return False
    if n == -1:
        return len(way) == 0 and len(some) == 0
    if any([number > n for number, side in way]):
        return False
    return parts(joinings[:n], one, other, some)
