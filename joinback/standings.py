"""What others share of how names and joinings stand at one moment."""

from joinback.plain import ends_by_name, ways_from


def class_with(names, joinings, name):
    """The rising list of all names that hang together with a name, itself too."""
    return sorted(ways_from(ends_by_name(names, joinings), name))


class Standing:
    """The names, the rows (n, one, other, step) and the number that comes next, at one moment.

    It is never changed, so that several meshes may have it: a deed makes another one.
    """

    def __init__(self, names, rows, upcoming):
        self.names = names
        self.rows = rows
        self.upcoming = upcoming


def numbers_in(standing):
    """The rising list of the joinings' own numbers."""
    return [n for n, one, other, step in standing.rows]


def numbers_at(standing, name):
    """The rising list of the own numbers of a name's joinings."""
    return [n for n, one, other, step in standing.rows if name in (one, other)]


def joinings_in(standing):
    """The list of the joinings, each at its place among those that stand."""
    return [(one, other, step) for n, one, other, step in standing.rows]


def own_way(numbers, way):
    """A way by places as one by the own numbers of what stands there; None stays."""
    if way is None:
        return None
    return tuple([(numbers[place], side) for place, side in way])


def class_in(standing, name):
    """The rising list of a name's class, None where the name isn't there."""
    if name not in standing.names:
        return None
    return class_with(standing.names, joinings_in(standing), name)


def together_in(standing, one, other):
    """Whether both names are there and together."""
    group = class_in(standing, one)
    return group is not None and other in group


def with_row(standing, one, other, step):
    """The standing that has one joining more."""
    row = (standing.upcoming, one, other, step)
    return Standing(standing.names, standing.rows + [row], standing.upcoming + 1)


def without_rows(standing, numbers):
    """The standing that lacks the joinings of these own numbers."""
    rows = [row for row in standing.rows if row[0] not in numbers]
    return Standing(standing.names, rows, standing.upcoming)


def with_name(standing, name):
    """The standing that has one name more."""
    return Standing(standing.names + [name], standing.rows, standing.upcoming)


def without_name(standing, name):
    """The standing that lacks a name that is of no joining."""
    names = [other for other in standing.names if other != name]
    return Standing(names, standing.rows, standing.upcoming)
