"""What others share of the sums and the leaders of classes.

Weights are a dict that bears the names in the order in which they came.
"""

RULES = ("least", "last", "first", "heavy", "busy")


def sum_in(group, weights):
    """The weights of a class together."""
    return sum([weights[name] for name in group])


def marks_in(group, rule, weights, joinings):
    """By name: what the rules "heavy" and "busy" ask the most of."""
    if rule == "heavy":
        return {name: weights[name] for name in group}
    # A joining of a name with itself has both its ends there.
    ends = [one for one, other, step in joinings] + [other for one, other, step in joinings]
    return {name: ends.count(name) for name in group}


def leader_in(group, rule, weights, joinings):
    """Of a rising class the one that leads it by a rule."""
    if rule == "least":
        return group[0]
    if rule == "last":
        return group[-1]
    if rule == "first":
        return [name for name in weights if name in group][0]
    marks = marks_in(group, rule, weights, joinings)
    return min(group, key=lambda name: (-marks[name], name))
