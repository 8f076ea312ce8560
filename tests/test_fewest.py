import itertools
import random
import unittest

from helper import FORTY, are_together, long_row_among, plainly_straight, some_joinings
from joinback.fewest import fewest_way, levels_of
from joinback.steps import led


def first_by_trying(joinings, one, other, most):
    """The fewest way by its very words: all tuples of pairs, as they rise, of growing lengths."""
    pairs = sorted(itertools.product(range(len(joinings)), (1, -1)))
    for many in range(most + 1):
        for way in itertools.product(pairs, repeat=many):
            if led(joinings, one, way) == other:
                return way
    return None


def joinings_from(joinings, start):
    """By name: how many joinings it is from start, by rounds in which all joinings are gone through."""
    away = {start: 0}
    for many in range(len(joinings)):
        for begin, end, step in joinings:
            for here, there in ((begin, end), (end, begin)):
                if away.get(here) == many and there not in away:
                    away[there] = many + 1
    return away


def first_by_closing_in(joinings, one, other):
    """The fewest way by another road: always the least pair that comes nearer to other."""
    left = joinings_from(joinings, other)
    if one not in left:
        return None
    here, way = one, []
    while here != other:
        steps = []
        for number, (begin, end, step) in enumerate(joinings):
            steps += [(number, 1, end)] if begin == here else []
            steps += [(number, -1, begin)] if end == here else []
        number, side, here = min([row for row in steps if left[row[2]] == left[here] - 1])
        way.append((number, side))
    return tuple(way)


class WayCase(unittest.TestCase):
    def check(self, joinings, one, other):
        """The way by another road, and the levels by theirs."""
        way, levels = fewest_way(joinings, one, other), levels_of(joinings, one, other)
        self.assertEqual(way, first_by_closing_in(joinings, one, other), (joinings, one, other))
        away = joinings_from(joinings, one)
        if other not in away:
            self.assertIsNone(way)
            self.assertIsNone(levels)
            return way
        self.assertTrue(plainly_straight(joinings, one, other, way))
        self.assertEqual(len(way), away[other])
        wanted = [sorted([name for name in away if away[name] == many]) for many in range(away[other])]
        self.assertEqual(levels, wanted)
        return way


class FewestWay(WayCase):
    def test_ordinary(self):
        joinings = [("a", "b", 3), ("b", "c", 5), ("d", "c", 1), ("a", "d", 9), ("e", "f", 2)]
        self.assertEqual(fewest_way(joinings, "a", "b"), ((0, 1),))
        self.assertEqual(fewest_way(joinings, "b", "a"), ((0, -1),))
        self.assertEqual(fewest_way(joinings, "b", "d"), ((0, -1), (3, 1)))
        self.assertEqual(fewest_way(joinings, "d", "b"), ((2, 1), (1, -1)))
        self.assertEqual(fewest_way(joinings, "f", "e"), ((4, -1),))

    def test_not_together(self):
        joinings = [("a", "b", 3), ("c", "d", 5)]
        for one, other in (("a", "c"), ("d", "b"), ("a", "d"), ("c", "b")):
            self.assertIsNone(fewest_way(joinings, one, other))

    def test_a_name_and_itself(self):
        joinings = [("a", "a", 3), ("a", "b", 5), ("b", "a", 5)]
        for name in ("a", "b", "x"):
            self.assertEqual(fewest_way(joinings, name, name), ())
        self.assertEqual(fewest_way([], "k", "k"), ())

    def test_names_of_no_joining(self):
        for joinings in ([], [("a", "b", 3)], [("x", "x", 3)]):
            for one, other in (("a", "x"), ("x", "a"), ("y", "x"), ("x", "y")):
                self.assertIsNone(fewest_way(joinings, one, other))

    def test_a_joining_of_a_name_with_itself_is_not_gone(self):
        joinings = [("a", "a", 0), ("b", "b", 0), ("b", "a", 1), ("c", "c", 0), ("b", "c", 0)]
        self.assertEqual(fewest_way(joinings, "a", "c"), ((2, -1), (4, 1)))
        self.assertEqual(fewest_way(joinings, "c", "a"), ((4, -1), (2, 1)))

    def test_of_alike_and_turned_about_joinings_the_first(self):
        joinings = [("b", "a", 3), ("a", "b", -3), ("a", "b", -3), ("c", "b", 0), ("b", "c", 0)]
        self.assertEqual(fewest_way(joinings, "a", "b"), ((0, -1),))
        self.assertEqual(fewest_way(joinings, "b", "a"), ((0, 1),))
        self.assertEqual(fewest_way(joinings, "a", "c"), ((0, -1), (3, -1)))
        self.assertEqual(fewest_way(joinings[1:], "a", "c"), ((0, 1), (2, -1)))
        self.assertEqual(fewest_way(joinings[::-1], "a", "c"), ((2, 1), (0, 1)))

    def test_of_several_the_first_as_tuples_rise(self):
        joinings = [("c", "d", 0), ("b", "d", 0), ("a", "b", 0), ("a", "c", 0)]
        self.assertEqual(fewest_way(joinings, "a", "d"), ((2, 1), (1, 1)))
        self.assertEqual(fewest_way(joinings, "d", "a"), ((0, -1), (3, -1)))
        self.assertEqual(fewest_way(joinings, "b", "c"), ((1, 1), (0, -1)))
        self.assertEqual(fewest_way(joinings, "c", "b"), ((0, 1), (1, -1)))

    def test_the_first_pair_goes_ahead_of_later_ones(self):
        # The way by 1 ends with the greatest number, that by 2 with the least one.
        joinings = [("c", "d", 0), ("a", "b", 0), ("a", "c", 0), ("b", "d", 0)]
        self.assertEqual(fewest_way(joinings, "a", "d"), ((1, 1), (3, 1)))
        joinings = [("e", "f", 0), ("a", "b", 0), ("d", "a", 0), ("d", "e", 0), ("f", "c", 0), ("c", "b", 0)]
        self.assertEqual(fewest_way(joinings, "a", "f"), ((1, 1), (5, -1), (4, -1)))

    def test_fewer_joinings_go_ahead_of_lesser_numbers(self):
        joinings = [("a", "b", 0), ("b", "c", 0), ("c", "d", 0), ("d", "a", 0)]
        self.assertEqual(fewest_way(joinings, "a", "d"), ((3, -1),))
        self.assertEqual(fewest_way(joinings, "a", "c"), ((0, 1), (1, 1)))

    def test_against_all_ways_tried(self):
        chance = random.Random(1)
        lengths = set()
        for again in range(150):
            names = ["a", "b", "c", "d"][:chance.randrange(1, 5)]
            joinings = some_joinings(chance, names, chance.randrange(0, 6), (0,))
            for one, other in itertools.product(names + ["x"], repeat=2):
                wanted = first_by_trying(joinings, one, other, 3)
                lengths.add(None if wanted is None else len(wanted))
                self.assertEqual(fewest_way(joinings, one, other), wanted, (joinings, one, other))
                self.assertEqual(wanted is not None, are_together(joinings, one, other))
        self.assertEqual(lengths, {None, 0, 1, 2, 3})

    def test_a_long_row(self):
        chain = [(FORTY[at], FORTY[at + 1], 0) for at in range(39)]
        self.assertEqual(fewest_way(chain, FORTY[0], FORTY[39]), tuple([(at, 1) for at in range(39)]))
        self.assertEqual(fewest_way(chain, FORTY[39], FORTY[0]), tuple([(at, -1) for at in range(38, -1, -1)]))
        self.assertEqual(fewest_way(chain + [(FORTY[39], FORTY[0], 0)], FORTY[0], FORTY[39]), ((39, -1),))

    def test_forty_names_with_a_long_row_among_them(self):
        chance = random.Random(2)
        lengths = set()
        for again in range(25):
            joinings = long_row_among(chance, 120)
            for one, other in [(FORTY[0], FORTY[39])] + [chance.choices(FORTY, k=2) for more in range(8)]:
                lengths.add(len(self.check(joinings, one, other)))
        self.assertGreaterEqual(max(lengths), 18)

    def test_many_ways_of_the_same_length(self):
        chance = random.Random(3)
        for again in range(25):
            rows = [FORTY[at:at + 5] for at in range(0, 40, 5)]
            joinings = []
            for near, far in zip(rows, rows[1:]):
                joinings += [(chance.choice(near), chance.choice(far), 0) for more in range(17)]
            chance.shuffle(joinings)
            joinings = [(end, begin, 0) if chance.random() < 0.5 else (begin, end, 0) for begin, end, step in joinings]
            for one, other in itertools.product(rows[0][:2], rows[-1][:2]):
                self.check(joinings, one, other)

    def test_sparse_ones(self):
        chance = random.Random(4)
        told = set()
        for again in range(300):
            names = chance.sample(FORTY, chance.randrange(1, 41))
            joinings = some_joinings(chance, names, chance.randrange(0, 50), (0, 1))
            way = self.check(joinings, chance.choice(names), chance.choice(names))
            told.add(way is None)
        self.assertEqual(told, {True, False})


class LevelsOf(WayCase):
    def test_ordinary(self):
        joinings = [("a", "c", 0), ("b", "a", 0), ("c", "d", 0), ("e", "d", 0), ("b", "f", 0), ("e", "g", 0)]
        self.assertEqual(levels_of(joinings, "a", "e"), [["a"], ["b", "c"], ["d", "f"]])
        self.assertEqual(levels_of(joinings, "a", "d"), [["a"], ["b", "c"]])
        self.assertEqual(levels_of(joinings, "a", "b"), [["a"]])
        self.assertEqual(levels_of(joinings, "g", "a"), [["g"], ["e"], ["d"], ["c"]])

    def test_up_to_the_one_ahead_of_other_s(self):
        star = [("m", name, 0) for name in "zyxa"]
        self.assertEqual(levels_of(star, "m", "x"), [["m"]])
        self.assertEqual(levels_of(star, "x", "m"), [["x"]])
        self.assertEqual(levels_of(star, "x", "a"), [["x"], ["m"]])

    def test_each_list_rises(self):
        joinings = [("a", name, 0) for name in "kcxbm"] + [("m", "z", 0)]
        self.assertEqual(levels_of(joinings, "a", "z"), [["a"], ["b", "c", "k", "m", "x"]])

    def test_a_name_and_itself(self):
        for name in ("a", "b", "x"):
            self.assertEqual(levels_of([("a", "a", 0), ("a", "b", 0)], name, name), [])
        self.assertEqual(levels_of([], "k", "k"), [])

    def test_without_a_way(self):
        for one, other in (("a", "c"), ("d", "a"), ("x", "a"), ("a", "x"), ("x", "y")):
            self.assertIsNone(levels_of([("a", "b", 0), ("c", "d", 0), ("x", "x", 0)], one, other))
        self.assertIsNone(levels_of([], "a", "b"))

    def test_alike_joinings_and_one_with_itself(self):
        joinings = [("a", "b", 0), ("b", "a", 0), ("a", "b", 0), ("b", "b", 0), ("c", "b", 0), ("a", "a", 0)]
        self.assertEqual(levels_of(joinings, "a", "c"), [["a"], ["b"]])

    def test_a_long_row(self):
        chain = [(FORTY[at], FORTY[at + 1], 0) for at in range(39)]
        self.assertEqual(levels_of(chain, FORTY[0], FORTY[39]), [[name] for name in FORTY[:39]])
        self.assertEqual(levels_of(chain, FORTY[39], FORTY[0]), [[name] for name in FORTY[:0:-1]])


class HandedInAndTold(WayCase):
    def test_tuples_do_for_lists(self):
        joinings = (("a", "b", 3), ("c", "b", 5), ("d", "d", 0))
        self.assertEqual(fewest_way(joinings, "a", "c"), ((0, 1), (1, -1)))
        self.assertEqual(levels_of(joinings, "a", "c"), [["a"], ["b"]])
        self.assertIsNone(fewest_way((), "a", "b"))
        self.assertEqual(levels_of((), "a", "a"), [])

    def test_what_is_handed_in_stays(self):
        joinings = [("c", "b", 5), ("a", "b", 3), ("b", "b", 0)]
        for one, other in (("a", "c"), ("a", "x"), ("a", "a")):
            fewest_way(joinings, one, other)
            levels_of(joinings, one, other)
        self.assertEqual(joinings, [("c", "b", 5), ("a", "b", 3), ("b", "b", 0)])

    def test_told_levels_are_the_asker_s_own(self):
        joinings = [("a", "b", 3), ("c", "b", 5)]
        told = levels_of(joinings, "a", "c")
        self.assertEqual(len({id(level) for level in told}), 2)
        told[0].append("x")
        told[1].clear()
        told.append(["y"])
        self.assertEqual(levels_of(joinings, "a", "c"), [["a"], ["b"]])
        nothing = levels_of(joinings, "a", "a")
        nothing.append(["a"])
        self.assertEqual(levels_of(joinings, "a", "a"), [])

    def test_told_things_do_not_follow_what_was_handed_in(self):
        joinings = [("a", "b", 3), ("c", "b", 5)]
        way, levels = fewest_way(joinings, "a", "c"), levels_of(joinings, "a", "c")
        joinings.clear()
        self.assertEqual((way, levels), (((0, 1), (1, -1)), [["a"], ["b"]]))
        self.assertIsNone(fewest_way(joinings, "a", "c"))

    def test_kinds_are_plain(self):
        way = fewest_way([("a", "b", 3), ("c", "b", 5)], "a", "c")
        self.assertIs(way.__class__, tuple)
        for pair in way:
            self.assertIs(pair.__class__, tuple)
            self.assertEqual([part.__class__ for part in pair], [int, int])


if __name__ == "__main__":
    unittest.main()
