"""When names are together, and how many classes there are, by joinings that stand for stretches of time."""

from joinback.fewest import fewest_way
from joinback.plain import classes
from joinback.stretches import joinings_at, stretches_of, turning_times


def together_times(rows, one, other):
    """The rising list of (begin, end), the greatest stretches in which one and other are together."""
    if one == other:
        return [(0, None)]
    times = turning_times(rows)
    marks = [fewest_way(joinings_at(rows, time), one, other) is not None for time in times]
    return stretches_of(times, marks)


def class_counts(names, rows):
    """The rising list of (time, number): 0, and each time at which the number of classes becomes another one."""
    found = []
    for time in turning_times(rows):
        many = len(classes(names, joinings_at(rows, time)))
        if len(found) == 0 or found[-1][1] != many:
            found.append((time, many))
    return found


def most_together(names, rows):
    """The greatest number of names in one class at any time, and the first time that has it."""
    best = (0, 0)
    for time in turning_times(rows):
        sizes = [len(group) for group in classes(names, joinings_at(rows, time))]
        many = max(sizes, default=0)
        if many > best[0]:
            best = (many, time)
    return best
