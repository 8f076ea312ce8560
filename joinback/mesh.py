"""A mesh: joinings of which any one can be taken, names that come and go, and all moments past."""

from joinback.eldest import eldest, eldest_way, in_place_of
from joinback.errors import NoJoin, NoMoment
from joinback.fewest import fewest_way
from joinback.naming import check_names, check_new, check_there
from joinback.plain import classes
from joinback.standings import (
    Standing,
    class_in,
    joinings_in,
    numbers_at,
    numbers_in,
    own_way,
    together_in,
    with_name,
    with_row,
    without_name,
    without_rows,
)
from joinback.steps import counted, steps_of


class Mesh:
    """Names and numbered joinings, as they stand now and as they stood at each moment."""

    def __init__(self, names, turn):
        check_names(names)
        self.turn = turn
        # One for each moment, the last one now.
        self.standings = [Standing(list(names), [], 0)]

    def now(self):
        """The standing of the moment now."""
        return self.standings[-1]

    def check_two(self, one, other):
        """Refuses one, then other, where it isn't there."""
        check_there(self.now().names, one)
        check_there(self.now().names, other)

    def check_moment(self, then):
        """Refuses what is no moment from 0 to now."""
        if then < 0 or then > self.moment():
            raise NoMoment(f"there is no moment {then}")

    def join(self, one, other, step):
        """("joined", n), ("known", n), or ("clash", way)."""
        known = self.steps(one, other)
        if known is not None and known != counted(self.turn, step):
            return ("clash", self.way(one, other))
        n = self.now().upcoming
        self.standings.append(with_row(self.now(), one, other, step))
        return ("joined" if known is None else "known", n)

    def take(self, n):
        """("spare",), ("held", k), or ("parted", one, other), two classes."""
        now = self.now()
        numbers = numbers_in(now)
        if n not in numbers:
            raise NoJoin(f"no joining {n} stands")
        place = numbers.index(n)
        one, other, step = joinings_in(now)[place]
        instead = in_place_of(now.names, joinings_in(now), place)
        rest = without_rows(now, [n])
        self.standings.append(rest)
        if instead is None:
            return ("parted", class_in(rest, one), class_in(rest, other))
        if instead == -1:
            return ("spare",)
        return ("held", numbers[instead])

    def put_name(self, name):
        """The name is there from now on."""
        check_new(self.now().names, name, 0)
        self.standings.append(with_name(self.now(), name))

    def drop_name(self, name):
        """The name is gone; tells the rising list of its joinings' numbers, which are taken."""
        check_there(self.now().names, name)
        numbers = numbers_at(self.now(), name)
        self.standings.append(without_name(without_rows(self.now(), numbers), name))
        return numbers

    def names_now(self):
        """The rising list of the names."""
        return sorted(self.now().names)

    def standing(self):
        """The rising list of (n, one, other, step) of the joinings that stand."""
        return list(self.now().rows)

    def holding(self):
        """The rising list of the numbers of the joinings that hold."""
        numbers = numbers_in(self.now())
        return [numbers[place] for place in eldest(self.now().names, joinings_in(self.now()))]

    def together(self, one, other):
        """Whether one and other are of one class."""
        self.check_two(one, other)
        return together_in(self.now(), one, other)

    def steps(self, one, other):
        """The steps from one to other, None where they aren't together."""
        self.check_two(one, other)
        joinings = joinings_in(self.now())
        way = eldest_way(joinings, one, other)
        if way is None:
            return None
        return steps_of(joinings, self.turn, way)

    def class_of(self, name):
        """The rising list of the name's class."""
        check_there(self.now().names, name)
        return class_in(self.now(), name)

    def all_classes(self):
        """The rising list of the classes."""
        return classes(self.now().names, joinings_in(self.now()))

    def way(self, one, other):
        """The eldest way from one to other by the joinings' own numbers, or None."""
        self.check_two(one, other)
        return own_way(numbers_in(self.now()), eldest_way(joinings_in(self.now()), one, other))

    def few_way(self, one, other):
        """The fewest way from one to other by the joinings' own numbers, or None."""
        self.check_two(one, other)
        return own_way(numbers_in(self.now()), fewest_way(joinings_in(self.now()), one, other))

    def moment(self):
        """The number of the moment now."""
        return len(self.standings) - 1

    def at(self, then):
        """A mesh of its own as this one was at a moment."""
        self.check_moment(then)
        past = Mesh([], self.turn)
        past.standings = self.standings[:then + 1]
        return past

    def copy(self):
        """A mesh of its own as this one is now."""
        return self.at(self.moment())

    def times_together(self, one, other):
        """The rising list of (first, last), the moments in which both were there and together."""
        found = []
        for moment, standing in enumerate(self.standings):
            if together_in(standing, one, other):
                first = moment
                if found and found[-1][1] == moment - 1:
                    first = found.pop()[0]
                found.append((first, moment))
        return found

    def eldest_time(self, one, other):
        """The first moment in which both were there and together, or None."""
        times = self.times_together(one, other)
        return times[0][0] if times else None

    def between(self, then, later):
        """The rising list of (name, class, class) of the names whose class was another one at two moments."""
        self.check_moment(then)
        self.check_moment(later)
        old, new = self.standings[then], self.standings[later]
        rows = [(name, class_in(old, name), class_in(new, name)) for name in sorted(set(old.names + new.names))]
        return [row for row in rows if row[1] != row[2]]
