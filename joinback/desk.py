"""A desk: a text of deeds and asks, answered row by row by a mesh."""

from joinback.deskwords import rows_in, several, several_classes, written_way, yes_or_no
from joinback.errors import BadName, NoJoin, NoName
from joinback.leading import leader_in, sum_in
from joinback.mesh import Mesh
from joinback.naming import check_there


class Desk:
    """A mesh, and the weights of its names in the order in which they came."""

    def __init__(self, turn):
        self.mesh = Mesh([], turn)
        self.weights = {}


def do_name(desk, words):
    """Puts a name, which weighs nothing and is the last that came."""
    desk.mesh.put_name(words[0])
    desk.weights[words[0]] = 0
    return "done"


def do_drop(desk, words):
    """Drops a name; its weight, and when it came, are forgotten."""
    numbers = desk.mesh.drop_name(words[0])
    del desk.weights[words[0]]
    return several(numbers)


def do_join(desk, words):
    """Joins two names."""
    told = desk.mesh.join(words[0], words[1], int(words[2]))
    if told[0] == "clash":
        return f"clash {written_way(told[1])}"
    return several(told)


def do_take(desk, words):
    """Takes a joining."""
    told = desk.mesh.take(int(words[0]))
    if told[0] == "parted":
        return f"parted {several_classes(told[1:])}"
    return several(told)


def do_weigh(desk, words):
    """Gives a name its weight."""
    check_there(desk.weights, words[0])
    desk.weights[words[0]] = int(words[1])
    return "done"


def tell_with(desk, words):
    """Whether two names are together."""
    return yes_or_no(desk.mesh.together(words[0], words[1]))


def tell_steps(desk, words):
    """The steps from one name to another one."""
    steps = desk.mesh.steps(words[0], words[1])
    return "no" if steps is None else str(steps)


def tell_way(desk, words):
    """The eldest way from one name to another one."""
    return written_way(desk.mesh.way(words[0], words[1]))


def tell_few(desk, words):
    """The fewest way from one name to another one."""
    return written_way(desk.mesh.few_way(words[0], words[1]))


def tell_class(desk, words):
    """The names of a name's class."""
    return several(desk.mesh.class_of(words[0]))


def tell_classes(desk, words):
    """All classes."""
    return several_classes(desk.mesh.all_classes())


def tell_holding(desk, words):
    """The numbers of the joinings that hold."""
    return several(desk.mesh.holding())


def tell_sum(desk, words):
    """The weights of a name's class together."""
    return str(sum_in(desk.mesh.class_of(words[0]), desk.weights))


def tell_leader(desk, words):
    """The one that leads a name's class by a rule."""
    joinings = [(one, other, step) for n, one, other, step in desk.mesh.standing()]
    return leader_in(desk.mesh.class_of(words[0]), words[1], desk.weights, joinings)


def tell_times(desk, words):
    """The moments in which two names were there and together."""
    return several([f"{first}-{last}" for first, last in desk.mesh.times_together(words[0], words[1])])


def tell_then(desk, words):
    """Whether two names were there and together at a moment."""
    then = int(words[0])
    if then > desk.mesh.moment():
        return "no moment"
    times = desk.mesh.times_together(words[1], words[2])
    return yes_or_no(any([first <= then <= last for first, last in times]))


DEEDS = {
    "name": do_name,
    "drop": do_drop,
    "join": do_join,
    "take": do_take,
    "weigh": do_weigh,
    "with": tell_with,
    "steps": tell_steps,
    "way": tell_way,
    "few": tell_few,
    "class": tell_class,
    "classes": tell_classes,
    "holding": tell_holding,
    "sum": tell_sum,
    "leader": tell_leader,
    "times": tell_times,
    "then": tell_then,
}


def answer(desk, words):
    """The answer to a row of these words."""
    deed = DEEDS[words[0]]
    try:
        return deed(desk, words[1:])
    except (BadName, NoName, NoJoin):
        return "refused"


def run(text):
    """The list of answers to the rows of a text, a text each."""
    rows = rows_in(text)
    desk = Desk(int(rows[0][1]))
    return [answer(desk, words) for words in rows[1:]]
