import itertools
import random
import unittest

from helper import FAR, FORTY, ODD, TURNS, are_together, deep, formed_way, gone_through, is_of, long_row_among
from helper import plain_classes, plainly_parting, plainly_straight, small_joinings, some_joinings, spoilt
from joinback.plain import classes, numbers_of
from joinback.plaincheck import shows_numbers, shows_parted, shows_ring, shows_way
from joinback.steps import counted, steps_of

NAMES = ["d", "c", "b", "a", "e"]
JOININGS = [("a", "b", 3), ("c", "b", 5), ("a", "c", -2), ("e", "d", 1), ("b", "a", -3), ("e", "e", 4), ("d", "e", 7)]


def plainly_numbers(names, joinings, turn, rows):
    """Whether a paper is rows of numbers that come out, as the document tells it."""
    if not is_of(rows, list, tuple):
        return False
    for row in rows:
        if not is_of(row, tuple) or [part.__class__ for part in row] != [str, int]:
            return False
    if len(rows) != len(names) or {row[0] for row in rows} != set(names):
        return False
    number = {row[0]: row[1] for row in rows}
    return not any(counted(turn, number[one] + step) != counted(turn, number[other]) for one, other, step in joinings)


def plainly_ring(joinings, turn, name, ring):
    """Whether a paper is a ring whose steps don't come to nought, as the document tells it."""
    if not formed_way(joinings, ring) or ring == ():
        return False
    met = gone_through(joinings, name, ring)
    if met is None or met[-1] != name or len(set(met)) != len(ring):
        return False
    return len({number for number, side in ring}) == len(ring) and steps_of(joinings, turn, ring) != 0


def plainly_parted(names, joinings, one, other, some):
    if not is_of(some, list, tuple) or any(not is_of(name, str) or name not in names for name in some):
        return False
    return plainly_parting(joinings, one, other, some)


class CheckerCase(unittest.TestCase):
    def told(self, wanted, checker, *things):
        answer = checker(*things)
        self.assertIs(answer, wanted, things)


class ShowsNumbers(CheckerCase):
    JOININGS = [("a", "b", 3), ("c", "b", 5), ("e", "d", 1)]
    RIGHT = [("a", 0), ("b", 3), ("c", -2), ("d", 0), ("e", -1)]

    def shown(self, wanted, rows, turn=0, joinings=None):
        self.told(wanted, shows_numbers, NAMES, self.JOININGS if joinings is None else joinings, turn, rows)

    def test_what_numbers_of_tells(self):
        for turn in TURNS:
            self.shown(True, numbers_of(NAMES, self.JOININGS, turn)[1], turn)

    def test_rows_in_any_order(self):
        for rows in itertools.permutations(self.RIGHT):
            self.shown(True, list(rows))
            self.shown(True, rows)

    def test_any_number_for_the_least_names(self):
        for first, second in ((0, 0), (1, 0), (-7, FAR), (FAR, -FAR), (10 ** 40, 5), (0, -10 ** 40)):
            rows = [("a", first), ("b", first + 3), ("c", first - 2), ("d", second), ("e", second - 1)]
            self.shown(True, rows)
            self.shown(True, rows, 12)
            self.shown(False, rows[:2] + [("c", first - 1)] + rows[3:])

    def test_counted_or_not(self):
        self.shown(True, [("a", 0), ("b", 3), ("c", 8), ("d", 0), ("e", 9)], 10)
        self.shown(True, [("a", 10), ("b", -7), ("c", 108), ("d", -40), ("e", 999)], 10)
        self.shown(False, [("a", 10), ("b", -7), ("c", 107), ("d", -40), ("e", 999)], 10)
        self.shown(False, [("a", 0), ("b", 3), ("c", 8), ("d", 0), ("e", 9)], 0)
        self.shown(False, [("a", 0), ("b", 3), ("c", 8), ("d", 0), ("e", 9)], 9)

    def test_by_a_turn_of_one_all_numbers_do(self):
        self.shown(True, [("a", 5), ("b", -3), ("c", 8), ("d", 1), ("e", 1)], 1)
        self.shown(False, [("a", 5), ("b", -3), ("c", 8), ("d", 1)], 1)

    def test_by_a_turn_of_two(self):
        self.shown(True, [("a", 1), ("b", 0), ("c", 1), ("d", 4), ("e", 7)], 2)
        self.shown(False, [("a", 1), ("b", 1), ("c", 1), ("d", 4), ("e", 7)], 2)

    def test_each_joining_is_asked(self):
        for wrong in (("a", "c", -1), ("b", "c", 5), ("d", "d", 1), ("c", "a", -2)):
            self.shown(False, self.RIGHT, joinings=self.JOININGS + [wrong])
            self.shown(False, self.RIGHT, joinings=[wrong] + self.JOININGS)
        for right in (("a", "c", -2), ("b", "c", -5), ("d", "d", 0), ("c", "a", 2)):
            self.shown(True, self.RIGHT, joinings=self.JOININGS + [right])

    def test_a_row_left_out_twice_more(self):
        for at, row in enumerate(self.RIGHT):
            self.shown(False, self.RIGHT[:at] + self.RIGHT[at + 1:])
            self.shown(False, self.RIGHT + [row])
            self.shown(False, self.RIGHT[:at] + [row] + self.RIGHT[at:])
            self.shown(False, self.RIGHT[:at] + [("x", 0)] + self.RIGHT[at + 1:])
        for more in (("f", 0), ("", 0), ("A", 0), ("a", 1), ()):
            self.shown(False, self.RIGHT + [more])
        self.shown(False, [("a", 0), ("b", 3), ("c", -2), ("d", 0), ("d", 0)])
        self.shown(False, [])
        self.shown(False, ())

    def test_a_number_that_is_not_right(self):
        for at, (name, number) in enumerate(self.RIGHT):
            for wrong in (number + 1, number - 1, -number - 10, 10 ** 40):
                self.shown(False, self.RIGHT[:at] + [(name, wrong)] + self.RIGHT[at + 1:])

    def test_true_and_false_are_no_numbers(self):
        self.shown(False, [("a", False)] + self.RIGHT[1:])
        self.shown(False, self.RIGHT[:3] + [("d", True), ("e", 0)])
        self.shown(True, self.RIGHT[:3] + [("d", 1), ("e", 0)])
        for wrong in (True, False):
            self.told(False, shows_numbers, ["a"], [], 1, [("a", wrong)])

    def test_rows_are_tuples_and_stand_in_a_list_or_a_tuple(self):
        self.shown(True, tuple(self.RIGHT))
        self.shown(False, [list(row) for row in self.RIGHT])
        self.shown(False, [list(self.RIGHT[0])] + self.RIGHT[1:])
        self.shown(False, [self.RIGHT[0] + (0,)] + self.RIGHT[1:])
        self.shown(False, [self.RIGHT[0][:1]] + self.RIGHT[1:])
        self.shown(False, [self.RIGHT[0][::-1]] + self.RIGHT[1:])
        self.shown(False, [self.RIGHT])
        self.shown(False, ("numbers", self.RIGHT))

    def test_no_names(self):
        self.told(True, shows_numbers, [], [], 0, [])
        self.told(True, shows_numbers, (), (), 7, ())
        for wrong in ("", None, 0, False, [()], [[]], [("a", 0)], ((),)):
            self.told(False, shows_numbers, [], [], 0, wrong)

    def test_where_steps_clash_no_numbers_do(self):
        for wrong in ([("a", "b", 3), ("a", "b", 4)], [("a", "a", 1)], [("b", "a", 1), ("a", "b", 1)]):
            for first, second in itertools.product(range(-5, 6), repeat=2):
                self.told(False, shows_numbers, ["a", "b"], wrong, 0, [("a", first), ("b", second)])

    def test_all_small_numbers(self):
        for joinings in small_joinings(["a", "b"], (-1, 0, 2), 2):
            for turn in (0, 1, 2, 3):
                for tried in itertools.product(range(-2, 4), repeat=2):
                    rows = list(zip("ba", tried))
                    wanted = plainly_numbers(["a", "b"], joinings, turn, rows)
                    self.told(wanted, shows_numbers, ["a", "b"], joinings, turn, rows)

    def test_spoilt_by_one_thing(self):
        kinds = set()
        for turn in (0, 1, 2, 12):
            right = numbers_of(NAMES, self.JOININGS, turn)[1]
            for rows in spoilt(right):
                wanted = plainly_numbers(NAMES, self.JOININGS, turn, rows)
                kinds.add(wanted)
                self.shown(wanted, rows, turn)
        self.assertEqual(kinds, {True, False})

    def test_forty_names(self):
        chance = random.Random(1)
        for again in range(60):
            place = {name: chance.randrange(-FAR, FAR) for name in FORTY}
            turn = chance.choice(TURNS)
            joinings = [(one, other, place[other] - place[one])
                        for one, other, step in some_joinings(chance, FORTY, 140, (0,))]
            rows = list(place.items())
            chance.shuffle(rows)
            self.told(True, shows_numbers, FORTY, joinings, turn, rows)
            self.told(True, shows_numbers, FORTY, joinings, turn, numbers_of(FORTY, joinings, turn)[1])
            at = chance.randrange(40)
            rows[at] = (rows[at][0], rows[at][1] + chance.choice((1, -1)))
            wanted = plainly_numbers(FORTY, joinings, turn, rows)
            self.told(wanted, shows_numbers, FORTY, joinings, turn, rows)


class ShowsRing(CheckerCase):
    RING = ((0, 1), (1, -1), (2, -1))
    LIST = [("a", "b", 3), ("c", "b", 5), ("a", "c", 2), ("b", "d", 1), ("d", "a", 1), ("d", "d", 6), ("b", "a", 3)]

    def shown(self, wanted, name, ring, turn=0):
        self.told(wanted, shows_ring, list("dcba"), self.LIST, turn, name, ring)

    def test_from_each_of_its_names(self):
        self.shown(True, "a", ((0, 1), (1, -1), (2, -1)))
        self.shown(True, "b", ((1, -1), (2, -1), (0, 1)))
        self.shown(True, "c", ((2, -1), (0, 1), (1, -1)))
        self.shown(True, "a", ((2, 1), (1, 1), (0, -1)))
        for name in ("b", "c", "d", "x"):
            self.shown(False, name, self.RING)

    def test_one_and_two_joinings(self):
        self.shown(True, "d", ((5, 1),))
        self.shown(True, "d", ((5, -1),))
        self.shown(True, "a", ((0, 1), (6, 1)))
        self.shown(True, "b", ((6, 1), (0, 1)))
        self.shown(True, "a", ((6, -1), (0, -1)))
        self.shown(False, "a", ((0, 1), (6, -1)))

    def test_steps_that_come_to_nought(self):
        even = [("a", "b", 3), ("c", "b", 5), ("a", "c", -2), ("b", "b", 0)]
        self.told(False, shows_ring, list("abc"), even, 0, "a", self.RING)
        self.told(False, shows_ring, list("abc"), even, 7, "a", self.RING)
        self.told(False, shows_ring, list("abc"), even, 0, "b", ((3, 1),))

    def test_steps_that_come_to_nought_by_the_turn(self):
        for turn in (1, 2, 4):
            self.shown(False, "a", self.RING, turn)
        for turn in (0, 3, 5, 1000):
            self.shown(True, "a", self.RING, turn)
        for turn in (1, 2, 3, 6):
            self.shown(False, "d", ((5, -1),), turn)
        for turn in (4, 5, 7, 1000):
            self.shown(True, "d", ((5, -1),), turn)
        self.told(False, shows_ring, ["a"], [("a", "a", FAR)], 1000, "a", ((0, 1),))
        self.told(True, shows_ring, ["a"], [("a", "a", FAR + 1)], 1000, "a", ((0, 1),))

    def test_the_empty_way_is_no_ring(self):
        for name in ("a", "d"):
            for nothing in ((), [], "", None):
                self.shown(False, name, nothing)

    def test_a_joining_twice(self):
        self.shown(False, "a", ((0, 1), (0, -1)))
        self.shown(False, "d", ((5, 1), (5, 1)))
        self.shown(False, "d", ((5, 1), (5, -1)))
        self.shown(False, "a", self.RING + self.RING)
        # The steps don't come to nought here, and yet it's no ring.
        self.told(False, shows_ring, ["a"], [("a", "a", 1)], 0, "a", ((0, 1), (0, 1)))

    def test_a_name_twice(self):
        self.shown(False, "a", ((0, 1), (3, 1), (5, 1), (4, 1)))
        self.shown(True, "a", ((0, 1), (3, 1), (4, 1)))
        self.shown(False, "d", ((4, 1), (0, 1), (3, 1), (5, 1)))
        self.shown(False, "d", ((5, 1), (4, 1), (0, 1), (3, 1)))
        # Two rings that share the name "a".
        eight = [("a", "b", 1), ("b", "a", 1), ("a", "c", 1), ("c", "a", 1)]
        self.told(False, shows_ring, list("abc"), eight, 0, "a", ((0, 1), (1, 1), (2, 1), (3, 1)))
        self.told(False, shows_ring, list("abc"), eight, 0, "b", ((1, 1), (2, 1), (3, 1), (0, 1)))
        self.told(True, shows_ring, list("abc"), eight, 0, "a", ((2, 1), (3, 1)))

    def test_a_way_that_does_not_come_back_or_breaks_off(self):
        for wrong in (((0, 1),), ((0, 1), (1, -1)), ((0, 1), (3, 1)), ((1, -1), (2, -1)), ((0, 1), (2, -1), (1, -1))):
            self.shown(False, "a", wrong)

    def test_a_pair_that_is_wrong(self):
        for at, (number, side) in enumerate(self.RING):
            ahead, behind = self.RING[:at], self.RING[at + 1:]
            self.shown(False, "a", ahead + behind)
            self.shown(False, "a", ahead + ((number, side),) + self.RING[at:])
            wrong = [(number, -side), (number, 0), (number, 2 * side), (number + 3, side), (number + 7, side)]
            wrong += [(number - 7, side), (10 ** 40, side), (-10 ** 40, side), (number, side, 0), (number,), ()]
            wrong += [[number, side], (None, side), (number, None), (number, [side]), ("0", side), (number, "1")]
            wrong += [(True, side), (False, side), (number, True), (number, False), None, number, "ab"]
            for pair in wrong:
                self.shown(False, "a", ahead + (pair,) + behind)
        self.shown(False, "a", list(self.RING))
        self.shown(False, "a", [list(pair) for pair in self.RING])

    def test_true_and_false_are_no_numbers(self):
        alike = [("a", "a", 1), ("a", "a", 2)]
        for pair in ((0, True), (False, 1), (True, 1), (1, True), (True, -1), (False, True)):
            self.told(False, shows_ring, ["a"], alike, 0, "a", (pair,))
        self.told(True, shows_ring, ["a"], alike, 0, "a", ((1, 1),))

    def test_a_name_of_any_kind(self):
        for name in ODD:
            self.shown(name == "a", name, self.RING)
            self.shown(name == "d", name, ((5, 1),))
            self.shown(False, name, ())

    def test_spoilt_by_one_thing(self):
        kinds = set()
        for name, right in (("a", self.RING), ("d", ((5, 1),)), ("a", ((0, 1), (6, 1)))):
            self.shown(True, name, right)
            for ring in spoilt(right):
                wanted = plainly_ring(self.LIST, 0, name, ring)
                kinds.add(wanted)
                self.shown(wanted, name, ring)
        self.assertEqual(kinds, {True, False})

    def test_all_small_ways(self):
        pairs = list(itertools.product(range(3), (1, -1)))
        chance = random.Random(2)
        kinds = set()
        for again in range(60):
            joinings = some_joinings(chance, ["a", "b", "c"], 3, (-1, 0, 1, 3))
            for many in range(5):
                for ring in itertools.product(pairs, repeat=many):
                    turn = chance.choice((0, 1, 2, 3))
                    wanted = plainly_ring(joinings, turn, "a", ring)
                    kinds.add((wanted, many))
                    self.told(wanted, shows_ring, ["b", "c", "a"], joinings, turn, "a", ring)
        self.assertEqual({many for wanted, many in kinds if wanted}, {1, 2, 3})

    def test_what_numbers_of_tells(self):
        chance = random.Random(3)
        rings = 0
        for again in range(300):
            names = chance.sample(FORTY, chance.randrange(1, 41))
            turn = chance.choice(TURNS)
            joinings = some_joinings(chance, names, chance.randrange(0, 60), (-2, 0, 1, 6))
            told = numbers_of(names, joinings, turn)
            if told[0] == "ring":
                rings += 1
                self.told(True, shows_ring, names, joinings, turn, told[1], told[2])
            else:
                self.told(True, shows_numbers, names, joinings, turn, told[1])
        self.assertGreater(rings, 100)


class ShowsWay(CheckerCase):
    def shown(self, wanted, one, other, way):
        self.told(wanted, shows_way, JOININGS, one, other, way)

    def test_ordinary(self):
        self.shown(True, "a", "b", ((0, 1),))
        self.shown(True, "b", "a", ((0, -1),))
        self.shown(True, "a", "b", ((4, -1),))
        self.shown(True, "a", "c", ((0, 1), (1, -1)))
        self.shown(True, "c", "a", ((1, 1), (4, 1)))
        self.shown(True, "a", "b", ((2, 1), (1, 1)))
        self.shown(True, "d", "e", ((6, 1),))
        self.shown(True, "d", "e", ((3, -1),))

    def test_to_another_name(self):
        for other in ("a", "b", "d", "x", ""):
            self.shown(False, "a", other, ((0, 1), (1, -1)))

    def test_from_another_name(self):
        for one in ("b", "c", "d", "x"):
            self.shown(False, one, "c", ((0, 1), (1, -1)))

    def test_a_name_and_itself(self):
        for name in ("a", "e", "x"):
            self.shown(True, name, name, ())
        self.shown(False, "a", "b", ())
        self.shown(False, "x", "y", ())
        self.shown(False, "e", "e", ((5, 1),))
        self.shown(False, "a", "a", ((0, 1), (4, 1)))
        self.shown(False, "a", "a", ((0, 1), (0, -1)))

    def test_a_name_met_twice(self):
        self.shown(False, "a", "b", ((0, 1), (4, 1), (0, 1)))
        self.shown(False, "a", "b", ((0, 1), (1, -1), (1, 1)))
        self.shown(False, "a", "c", ((0, 1), (4, 1), (2, 1)))
        self.shown(False, "d", "e", ((6, 1), (5, 1)))
        self.shown(False, "e", "d", ((5, -1), (3, 1)))

    def test_a_pair_that_is_wrong(self):
        right = ((0, 1), (1, -1))
        for at, (number, side) in enumerate(right):
            ahead, behind = right[:at], right[at + 1:]
            self.shown(False, "a", "c", ahead + behind)
            self.shown(False, "a", "c", ahead + ((number, side),) + right[at:])
            wrong = [(number, -side), (number, 0), (number, 2 * side), (number + 3, side), (number + 7, side)]
            wrong += [(number - 7, side), (10 ** 40, side), (-10 ** 40, side), (number, side, 0), (number,), ()]
            wrong += [[number, side], (None, side), (number, None), (number, [side]), ("0", side), (number, "1")]
            wrong += [(True, side), (False, side), (number, True), (number, False), None, number, "ab"]
            for pair in wrong:
                self.shown(False, "a", "c", ahead + (pair,) + behind)

    def test_a_number_below_nought_is_of_none(self):
        # Counted from the end these would be of joinings that lead there.
        self.shown(False, "a", "b", ((-7, 1),))
        self.shown(False, "e", "d", ((-4, 1),))
        self.shown(False, "d", "e", ((-1, 1),))
        self.told(False, shows_way, [], "a", "b", ((0, 1),))
        self.told(False, shows_way, [("a", "b", 0)], "a", "b", ((1, 1),))

    def test_true_and_false_are_no_numbers(self):
        self.shown(False, "a", "b", ((False, 1),))
        self.shown(False, "a", "b", ((0, True),))
        self.shown(False, "c", "b", ((True, 1),))
        self.shown(True, "c", "b", ((1, 1),))

    def test_lists_do_not_stand_for_tuples(self):
        self.shown(False, "a", "b", [(0, 1)])
        self.shown(False, "a", "b", ([0, 1],))
        self.shown(False, "a", "b", [[0, 1]])
        self.shown(False, "a", "a", [])
        self.shown(False, "a", "a", "")
        self.shown(False, "a", "a", None)

    def test_things_of_any_kind(self):
        for thing in ODD:
            self.shown(plainly_straight(JOININGS, "a", "b", thing), "a", "b", thing)
            self.shown(thing == () and is_of(thing, tuple), "a", "a", thing)

    def test_spoilt_by_one_thing(self):
        kinds = set()
        for one, other, right in (("a", "c", ((0, 1), (1, -1))), ("e", "d", ((3, 1),)), ("b", "b", ())):
            self.shown(True, one, other, right)
            for way in spoilt(right):
                wanted = plainly_straight(JOININGS, one, other, way)
                kinds.add(wanted)
                self.shown(wanted, one, other, way)
        self.assertEqual(kinds, {True, False})

    def test_all_small_ways(self):
        pairs = list(itertools.product(range(3), (1, -1)))
        chance = random.Random(4)
        for again in range(60):
            joinings = some_joinings(chance, ["a", "b", "c", "d"], 3, (0, 1))
            for many in range(4):
                for way in itertools.product(pairs, repeat=many):
                    for other in ("a", "b", "c"):
                        wanted = plainly_straight(joinings, "a", other, way)
                        self.told(wanted, shows_way, joinings, "a", other, way)

    def test_a_long_row(self):
        chain = [(FORTY[at], FORTY[at + 1], 1) for at in range(39)]
        way = tuple([(at, 1) for at in range(39)])
        self.told(True, shows_way, chain, FORTY[0], FORTY[39], way)
        back = tuple([(at, -1) for at in range(38, -1, -1)])
        self.told(True, shows_way, chain, FORTY[39], FORTY[0], back)
        self.told(False, shows_way, chain, FORTY[0], FORTY[0], way + back)
        self.told(False, shows_way, chain, FORTY[0], FORTY[39], way[:20] + way[21:])


class ShowsParted(CheckerCase):
    LIST = [("a", "b", 3), ("c", "c", 1), ("e", "d", 1), ("b", "a", -3)]

    def shown(self, wanted, one, other, some):
        self.told(wanted, shows_parted, NAMES, self.LIST, one, other, some)

    def test_ordinary(self):
        self.shown(True, "a", "d", ["a", "b"])
        self.shown(True, "a", "c", ["a", "b"])
        self.shown(True, "a", "c", ["a", "b", "d", "e"])
        self.shown(True, "c", "a", ["c"])
        self.shown(True, "d", "a", ["e", "d", "c"])

    def test_names_in_any_order(self):
        for some in itertools.permutations(["a", "b", "d", "e"]):
            self.shown(True, "a", "c", list(some))
            self.shown(True, "a", "c", some)

    def test_no_name(self):
        for nothing in ([], (), "", None):
            self.shown(False, "a", "d", nothing)
            self.shown(False, "a", "a", nothing)
        self.told(False, shows_parted, ["a", "b"], [], "a", "b", [])
        self.told(True, shows_parted, ["a", "b"], [], "a", "b", ["a"])

    def test_all_names(self):
        self.shown(False, "a", "d", NAMES)
        self.shown(False, "a", "a", NAMES)

    def test_one_left_out_or_other_among_them(self):
        self.shown(False, "c", "d", ["a", "b"])
        self.shown(False, "a", "b", ["a", "b"])
        self.shown(False, "d", "c", ["a", "b", "c"])
        self.shown(False, "a", "a", ["a", "b"])
        self.shown(False, "a", "a", ["c"])

    def test_a_joining_with_just_one_among_them(self):
        self.shown(False, "a", "d", ["a"])
        self.shown(False, "a", "d", ["a", "b", "e"])
        self.shown(False, "b", "d", ["b"])
        self.shown(False, "a", "b", ["a"])
        self.shown(False, "a", "c", ["a", "b", "d"])
        self.told(False, shows_parted, NAMES, [("b", "a", 0)], "a", "d", ["a"])
        self.told(False, shows_parted, NAMES, [("a", "b", 0)], "a", "d", ["a"])
        self.told(True, shows_parted, NAMES, [("a", "a", 0)], "a", "d", ["a"])

    def test_a_name_twice(self):
        self.shown(False, "a", "d", ["a", "b", "a"])
        self.shown(False, "a", "d", ["a", "b", "b"])
        self.shown(False, "c", "d", ["c", "c"])

    def test_a_name_that_is_none_of_names(self):
        for wrong in ("f", "x", "", "A", "ab", "abcdefghi", 0, True, None, ["a"], ("a",), [], ()):
            self.shown(False, "a", "d", ["a", "b", wrong])
            self.shown(False, "a", "d", [wrong, "a", "b"])

    def test_a_text_is_no_list(self):
        self.shown(False, "a", "d", "ab")
        self.shown(False, "c", "d", "c")

    def test_all_lists_of_names(self):
        for joinings in small_joinings(["a", "b", "c"], (0,), 2):
            shown = {pair: False for pair in itertools.permutations("abc", 2)}
            for many in range(5):
                for some in itertools.product("abc", repeat=many):
                    for one, other in shown:
                        wanted = plainly_parted(["a", "b", "c"], joinings, one, other, some)
                        self.told(wanted, shows_parted, ["a", "b", "c"], joinings, one, other, some)
                        shown[one, other] = shown[one, other] or wanted
            for one, other in shown:
                self.assertIs(shown[one, other], not are_together(joinings, one, other))

    def test_spoilt_by_one_thing(self):
        kinds = set()
        for one, other, right in (("a", "d", ["a", "b"]), ("a", "c", ["e", "a", "d", "b"]), ("c", "a", ("c",))):
            self.shown(True, one, other, right)
            for some in spoilt(right):
                wanted = plainly_parted(NAMES, self.LIST, one, other, some)
                kinds.add(wanted)
                self.shown(wanted, one, other, some)
        self.assertEqual(kinds, {True, False})

    def test_forty_names(self):
        chance = random.Random(5)
        for again in range(100):
            joinings = some_joinings(chance, FORTY, chance.randrange(10, 60), (0,))
            one, other = chance.sample(FORTY, 2)
            group = [group for group in plain_classes(FORTY, joinings) if one in group][0]
            self.told(other not in group, shows_parted, FORTY, joinings, one, other, group)
            self.told(other not in group, shows_parted, FORTY[::-1], joinings, one, other, group[::-1])
            missing = [name for name in group if name != chance.choice(group)]
            wanted = plainly_parted(FORTY, joinings, one, other, missing)
            self.told(wanted, shows_parted, FORTY, joinings, one, other, missing)

    def test_what_classes_tells(self):
        joinings = long_row_among(random.Random(6), 120)
        broken = [joining for joining in joinings if FORTY[20] not in joining and FORTY[21] not in joining]
        groups = [group for group in classes(FORTY, broken) if FORTY[0] in group]
        self.told(True, shows_parted, FORTY, broken, FORTY[0], FORTY[39], groups[0])
        self.told(False, shows_parted, FORTY, joinings, FORTY[0], FORTY[39], groups[0])


class HandedIn(CheckerCase):
    def test_tuples_do_for_lists(self):
        names, joinings = tuple(NAMES), tuple(ShowsNumbers.JOININGS)
        self.told(True, shows_numbers, names, joinings, 0, tuple(ShowsNumbers.RIGHT))
        self.told(True, shows_ring, names, (("a", "a", 1),), 0, "a", ((0, 1),))
        self.told(True, shows_way, joinings, "a", "c", ((0, 1), (1, -1)))
        self.told(True, shows_parted, names, joinings, "a", "d", ("a", "b", "c"))
        self.told(False, shows_parted, names, joinings, "a", "d", ("a", "b"))

    def test_what_is_handed_in_stays(self):
        names, joinings = ["d", "a", "c", "b"], [("d", "b", 1), ("c", "a", 3), ("a", "c", 3)]
        rows, some = [("d", 0), ("a", 3), ("c", 0), ("b", 1)], ["c", "a"]
        mixed = [["c", ["a"]], ("d", [0]), [], "a"]
        for right in (True, False):
            shows_numbers(names, joinings[:2] if right else joinings, 0, rows)
            shows_ring(names, joinings, 0, "c", ((1, 1), (2, 1)))
            shows_way(joinings, "a", "c", ((2, 1),))
            shows_parted(names, joinings, "a", "d" if right else "c", some)
            shows_numbers(names, joinings, 0, mixed)
            shows_ring(names, joinings, 0, mixed, mixed)
            shows_way(joinings, "a", "c", mixed)
            shows_parted(names, joinings, "a", "d", mixed)
        self.assertEqual(names, ["d", "a", "c", "b"])
        self.assertEqual(joinings, [("d", "b", 1), ("c", "a", 3), ("a", "c", 3)])
        self.assertEqual(rows, [("d", 0), ("a", 3), ("c", 0), ("b", 1)])
        self.assertEqual(some, ["c", "a"])
        self.assertEqual(mixed, [["c", ["a"]], ("d", [0]), [], "a"])

    def test_the_same_question_is_told_the_same(self):
        some = ["a", "b"]
        for again in range(3):
            self.told(True, shows_parted, NAMES, ShowsParted.LIST, "a", "d", some)
            self.told(True, shows_numbers, NAMES, ShowsNumbers.JOININGS, 0, ShowsNumbers.RIGHT)
        some.append("c")
        self.told(True, shows_parted, NAMES, ShowsParted.LIST, "a", "d", some)
        some.append("d")
        self.told(False, shows_parted, NAMES, ShowsParted.LIST, "a", "d", some)

    def test_ten_deep(self):
        for kind in (list, tuple):
            for inner in (0, True, None, "a", (0, 1), ["a"], ("a", 0)):
                for many in range(1, 11):
                    thing = deep(kind, inner, many)
                    for answer in (
                        shows_numbers(["b"], [("b", "b", 0)], 0, thing),
                        shows_ring(["b"], [("b", "b", 1)], 0, "a", thing),
                        shows_way([("b", "b", 1)], "a", "c", thing),
                        shows_parted(["b", "c"], [("b", "b", 0)], "b", "c", thing),
                    ):
                        self.assertIs(answer, False)


if __name__ == "__main__":
    unittest.main()
