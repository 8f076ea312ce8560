import itertools
import random
import unittest

from helper import FORTY, are_together, long_row_among, plain_classes, plainly_straight, small_joinings, some_joinings
from joinback.eldest import eldest, eldest_way, in_place_of, needed, since


def held_plainly(joinings, numbers):
    """Of these numbers those that hold, by asking of each whether all ahead of it leave its names apart."""
    held = []
    for at in numbers:
        one, other, step = joinings[at]
        if one != other and not are_together([joinings[n] for n in numbers if n < at], one, other):
            held.append(at)
    return held


def without(joinings, n):
    return joinings[:n] + joinings[n + 1:]


class EldestCase(unittest.TestCase):
    def check_way(self, names, joinings, one, other):
        """The way is straight and by those that hold; since is the least number, tried one after another."""
        way, first = eldest_way(joinings, one, other), since(joinings, one, other)
        if not are_together(joinings, one, other):
            self.assertEqual((way, first), (None, None))
            return
        self.assertTrue(plainly_straight(joinings, one, other, way), (joinings, one, other, way))
        held = held_plainly(joinings, range(len(joinings)))
        self.assertLessEqual({number for number, side in way}, set(held))
        self.assertEqual(first, max([-1] + [number for number, side in way]))
        if one == other:
            self.assertEqual((way, first), ((), -1))
        else:
            self.assertTrue(are_together(joinings[:first + 1], one, other))
            self.assertFalse(are_together(joinings[:first], one, other))

    def check_rest(self, names, joinings):
        """What is needed by counting classes, and what holds in whose place by those that hold without it."""
        numbers = range(len(joinings))
        held = held_plainly(joinings, numbers)
        self.assertEqual(eldest(names, joinings), held)
        many = len(plain_classes(names, joinings))
        missed = [n for n in numbers if len(plain_classes(names, without(joinings, n))) > many]
        self.assertEqual(needed(names, joinings), missed)
        for n in numbers:
            rest = held_plainly(joinings, [at for at in numbers if at != n])
            told = in_place_of(names, joinings, n)
            if n not in held:
                self.assertEqual((told, rest), (-1, held))
            elif n in missed:
                self.assertEqual((told, rest), (None, [at for at in held if at != n]))
            else:
                self.assertEqual(rest, sorted([at for at in held if at != n] + [told]))
                self.assertGreater(told, n)


class Eldest(EldestCase):
    NAMES = ["e", "d", "c", "b", "a"]
    JOININGS = [("a", "b", 1), ("b", "b", 1), ("b", "a", 7), ("c", "d", 0), ("a", "b", 1), ("d", "b", 2),
                ("a", "c", 0), ("e", "a", 0), ("d", "e", 0)]

    def test_ordinary(self):
        self.assertEqual(eldest(self.NAMES, self.JOININGS), [0, 3, 5, 7])

    def test_none_holds(self):
        self.assertEqual(eldest([], []), [])
        self.assertEqual(eldest(["a", "b"], []), [])
        self.assertEqual(eldest(["a", "b"], [("a", "a", 0), ("b", "b", 0), ("a", "a", 5)]), [])

    def test_all_hold(self):
        joinings = [("a", "b", 1), ("c", "b", 1), ("d", "e", 1), ("e", "a", 1)]
        self.assertEqual(eldest(self.NAMES, joinings), [0, 1, 2, 3])

    def test_of_alike_and_turned_about_ones_the_first(self):
        self.assertEqual(eldest(["a", "b"], [("b", "a", 1), ("a", "b", -1), ("b", "a", 1)]), [0])

    def test_two_classes_that_are_joined_become_one(self):
        joinings = [("a", "b", 0), ("c", "d", 0), ("b", "c", 0), ("a", "d", 0), ("d", "b", 0), ("c", "a", 0)]
        self.assertEqual(eldest(self.NAMES, joinings), [0, 1, 2])
        turned = [(end, begin, 0) for begin, end, step in joinings]
        self.assertEqual(eldest(self.NAMES, turned), [0, 1, 2])

    def test_the_order_of_names_does_not_matter(self):
        for names in itertools.permutations(self.NAMES):
            self.assertEqual(eldest(names, self.JOININGS), [0, 3, 5, 7])

    def test_a_long_row(self):
        chain = [(FORTY[at], FORTY[at + 1], 0) for at in range(39)]
        self.assertEqual(eldest(FORTY, chain + chain), list(range(39)))
        self.assertEqual(eldest(FORTY, [(FORTY[0], FORTY[39], 0)] + chain), list(range(39)))


class EldestWay(EldestCase):
    def test_ordinary(self):
        joinings = Eldest.JOININGS
        self.assertEqual(eldest_way(joinings, "a", "c"), ((0, 1), (5, -1), (3, -1)))
        self.assertEqual(eldest_way(joinings, "c", "a"), ((3, 1), (5, 1), (0, -1)))
        self.assertEqual(eldest_way(joinings, "d", "e"), ((5, 1), (0, -1), (7, -1)))
        self.assertEqual(eldest_way(joinings, "b", "a"), ((0, -1),))

    def test_it_is_by_those_that_hold_even_where_a_shorter_one_is(self):
        joinings = [("a", "b", 0), ("b", "c", 0), ("c", "d", 0), ("a", "d", 0)]
        self.assertEqual(eldest_way(joinings, "a", "d"), ((0, 1), (1, 1), (2, 1)))
        self.assertEqual(eldest_way(joinings[::-1], "a", "d"), ((0, 1),))

    def test_a_name_and_itself(self):
        for name in ("a", "b", "x"):
            self.assertEqual(eldest_way([("a", "a", 1), ("a", "b", 1), ("b", "a", 1)], name, name), ())
        self.assertEqual(eldest_way([], "k", "k"), ())

    def test_not_together_or_of_no_joining(self):
        joinings = [("a", "b", 0), ("c", "d", 0), ("x", "x", 0)]
        for one, other in (("a", "c"), ("d", "b"), ("x", "a"), ("a", "x"), ("y", "a"), ("a", "y"), ("y", "z")):
            self.assertIsNone(eldest_way(joinings, one, other))
            self.assertIsNone(since(joinings, one, other))

    def test_of_alike_and_turned_about_ones_the_first(self):
        joinings = [("b", "a", 1), ("a", "b", -1), ("a", "b", -1)]
        self.assertEqual(eldest_way(joinings, "a", "b"), ((0, -1),))
        self.assertEqual(eldest_way(joinings[1:], "a", "b"), ((0, 1),))

    def test_all_small_ones(self):
        names = ["a", "b", "c"]
        for joinings in small_joinings(names, (0,), 3):
            for one, other in itertools.product(names, repeat=2):
                self.check_way(names, joinings, one, other)

    def test_many_larger_ones(self):
        chance = random.Random(1)
        for again in range(150):
            names = chance.sample(FORTY, chance.randrange(1, 30))
            joinings = some_joinings(chance, names, chance.randrange(0, 40), (0, 1))
            self.check_way(names, joinings, chance.choice(names), chance.choice(names))

    def test_forty_names_with_a_long_row_among_them(self):
        chance = random.Random(2)
        for again in range(6):
            joinings = long_row_among(chance, 120)
            self.check_way(FORTY, joinings, FORTY[0], FORTY[39])
            self.check_way(FORTY, joinings, *chance.choices(FORTY, k=2))


class Since(EldestCase):
    def test_ordinary(self):
        joinings = Eldest.JOININGS
        told = [("a", "b", 0), ("b", "a", 0), ("d", "c", 3), ("a", "c", 5), ("d", "a", 5), ("e", "d", 7), ("e", "a", 7)]
        for one, other, number in told:
            with self.subTest(one=one, other=other):
                self.assertEqual(since(joinings, one, other), number)

    def test_a_name_and_itself(self):
        for name in ("a", "e", "x"):
            self.assertEqual(since(Eldest.JOININGS, name, name), -1)
        self.assertEqual(since([], "k", "k"), -1)
        self.assertEqual(since([("k", "k", 0)], "k", "k"), -1)

    def test_never(self):
        self.assertIsNone(since([], "a", "b"))
        self.assertIsNone(since([("a", "a", 0), ("b", "b", 0)], "a", "b"))

    def test_it_is_the_greatest_number_and_not_the_last(self):
        joinings = [("c", "d", 0), ("b", "c", 0), ("a", "b", 0)]
        self.assertEqual(since(joinings, "a", "d"), 2)
        self.assertEqual(since(joinings, "d", "a"), 2)
        self.assertEqual(since(joinings, "d", "b"), 1)


class Needed(EldestCase):
    def test_ordinary(self):
        self.assertEqual(needed(Eldest.NAMES, Eldest.JOININGS), [])
        self.assertEqual(needed(Eldest.NAMES, Eldest.JOININGS[:8]), [7])
        self.assertEqual(needed(Eldest.NAMES, Eldest.JOININGS[:6]), [3, 5])
        self.assertEqual(needed(Eldest.NAMES, Eldest.JOININGS[:1]), [0])

    def test_none(self):
        self.assertEqual(needed([], []), [])
        self.assertEqual(needed(["a", "b"], []), [])
        self.assertEqual(needed(["a"], [("a", "a", 0)]), [])
        self.assertEqual(needed(["a", "b"], [("a", "b", 0), ("b", "a", 9)]), [])

    def test_all(self):
        joinings = [("a", "b", 0), ("c", "b", 0), ("e", "d", 0)]
        self.assertEqual(needed(Eldest.NAMES, joinings), [0, 1, 2])

    def test_a_long_row_and_a_ring(self):
        chain = [(FORTY[at], FORTY[at + 1], 0) for at in range(39)]
        self.assertEqual(needed(FORTY, chain), list(range(39)))
        self.assertEqual(needed(FORTY, chain + [(FORTY[10], FORTY[20], 0)]), list(range(10)) + list(range(20, 39)))
        self.assertEqual(needed(FORTY, chain + [(FORTY[39], FORTY[0], 0)]), [])


class InPlaceOf(EldestCase):
    def test_one_that_does_not_hold(self):
        for n in (1, 2, 4, 6, 8):
            self.assertEqual(in_place_of(Eldest.NAMES, Eldest.JOININGS, n), -1)

    def test_one_in_whose_place_another_holds(self):
        for n, number in ((0, 2), (3, 6), (5, 6), (7, 8)):
            self.assertEqual(in_place_of(Eldest.NAMES, Eldest.JOININGS, n), number)

    def test_one_that_is_needed(self):
        self.assertIsNone(in_place_of(Eldest.NAMES, Eldest.JOININGS[:8], 7))
        self.assertIsNone(in_place_of(["a", "b"], [("a", "a", 0), ("a", "b", 0)], 1))

    def test_the_eldest_of_several_holds_in_its_place(self):
        joinings = [("a", "b", 0), ("b", "c", 0), ("c", "a", 0), ("b", "a", 0), ("a", "b", 0)]
        self.assertEqual(in_place_of(["a", "b", "c"], joinings, 0), 2)
        self.assertEqual(in_place_of(["a", "b", "c"], joinings, 1), 2)
        self.assertEqual(in_place_of(["a", "b", "c"], without(joinings, 2), 0), 2)
        self.assertEqual(in_place_of(["a", "b", "c"], without(joinings, 2), 2), -1)
        self.assertIsNone(in_place_of(["a", "b", "c"], without(joinings, 2), 1))

    def test_all_small_ones(self):
        for joinings in small_joinings(["a", "b", "c"], (0,), 3):
            self.check_rest(["c", "a", "b", "d"], joinings)

    def test_many_larger_ones(self):
        chance = random.Random(3)
        for again in range(60):
            names = chance.sample(FORTY, chance.randrange(1, 16))
            self.check_rest(names, some_joinings(chance, names, chance.randrange(0, 25), (0, 1)))

    def test_forty_names_with_a_long_row_among_them(self):
        joinings = long_row_among(random.Random(4), 120)
        many = len(plain_classes(FORTY, joinings))
        held = eldest(FORTY, joinings)
        self.assertEqual(held, held_plainly(joinings, range(120)))
        missed = [n for n in range(120) if len(plain_classes(FORTY, without(joinings, n))) > many]
        self.assertEqual(needed(FORTY, joinings), missed)
        self.assertTrue(0 < len(missed) < len(held))
        for n in range(120):
            told = in_place_of(FORTY, joinings, n)
            self.assertEqual(told == -1, n not in held)
            self.assertEqual(told is None, n in missed)
            if n in held and n not in missed:
                rest = eldest(FORTY, without(joinings, n))
                self.assertIn(told - 1, rest)
                self.assertEqual(len(rest), len(held))
                self.assertNotIn(told, held)


class HandedInAndTold(EldestCase):
    def test_tuples_do_for_lists(self):
        names, joinings = ("b", "c", "a"), (("a", "b", 0), ("b", "a", 0), ("b", "c", 0))
        self.assertEqual(eldest(names, joinings), [0, 2])
        self.assertEqual(eldest_way(joinings, "c", "a"), ((2, -1), (0, -1)))
        self.assertEqual(since(joinings, "c", "a"), 2)
        self.assertEqual(needed(names, joinings), [2])
        self.assertEqual([in_place_of(names, joinings, n) for n in range(3)], [1, -1, None])
        self.assertEqual((eldest((), ()), needed((), ())), ([], []))

    def test_what_is_handed_in_stays(self):
        names, joinings = ["b", "c", "a"], [("b", "c", 0), ("a", "b", 0), ("b", "a", 0), ("a", "a", 0)]
        eldest(names, joinings)
        eldest_way(joinings, "c", "a")
        since(joinings, "c", "x")
        needed(names, joinings)
        for n in range(4):
            in_place_of(names, joinings, n)
        self.assertEqual(names, ["b", "c", "a"])
        self.assertEqual(joinings, [("b", "c", 0), ("a", "b", 0), ("b", "a", 0), ("a", "a", 0)])

    def test_told_lists_are_the_asker_s_own(self):
        names, joinings = ["b", "c", "a"], [("b", "c", 0), ("a", "b", 0), ("b", "a", 0)]
        for deed, wanted in ((eldest, [0, 1]), (needed, [0])):
            told = deed(names, joinings)
            self.assertEqual(told, wanted)
            self.assertIs(told.__class__, list)
            told.append(7)
            self.assertEqual(deed(names, joinings), wanted)
        told = eldest(names, joinings)
        joinings.clear()
        names.clear()
        self.assertEqual(told, [0, 1])

    def test_kinds_are_plain(self):
        way = eldest_way([("a", "b", 3), ("c", "b", 5)], "a", "c")
        self.assertIs(way.__class__, tuple)
        for pair in way:
            self.assertIs(pair.__class__, tuple)
            self.assertEqual([part.__class__ for part in pair], [int, int])
        self.assertIs(since([], "a", "a").__class__, int)


if __name__ == "__main__":
    unittest.main()
