import itertools
import random
import re
import unittest

from helper import FORTY, ODD, are_together, deep, is_of, long_row_among, plain_classes, plainly_parting
from helper import plainly_straight, small_joinings, some_joinings, spoilt
from joinback.eldest import eldest_way, since
from joinback.fewest import fewest_way, levels_of
from joinback.waycheck import shows_fewest, shows_since

JOININGS = [("a", "b", 3), ("c", "b", 5), ("c", "c", 7), ("c", "d", 2), ("a", "b", 3), ("e", "d", 1), ("x", "y", 0)]


def are_plainly_names(thing):
    """Whether a paper is a list of NAMEs, as the document tells it."""
    return is_of(thing, list, tuple) and all(is_of(name, str) and re.fullmatch("[a-z]{1,8}", name) for name in thing)


def plainly_fewest(joinings, one, other, way, levels):
    """Whether a paper shows a fewest way, list by list as the document tells it."""
    if not plainly_straight(joinings, one, other, way) or not is_of(levels, list, tuple):
        return False
    if not all(are_plainly_names(level) for level in levels) or len(levels) != len(way):
        return False
    if any(other in level for level in levels) or (levels and one not in levels[0]):
        return False
    for at in range(len(levels) - 1):
        near = [name for level in levels[:at + 2] for name in level]
        for begin, end, step in joinings:
            if (begin in levels[at] and end not in near) or (end in levels[at] and begin not in near):
                return False
    return True


def plainly_since(joinings, one, other, n, way, some):
    """Whether a paper shows since when two names are together, as the document tells it."""
    if not is_of(n, int) or not plainly_straight(joinings, one, other, way) or not are_plainly_names(some):
        return False
    if n == -1:
        return way == () and len(some) == 0
    ahead = [joining for number, joining in enumerate(joinings) if number < n]
    return {number for number, side in way} <= set(range(min(n, 99) + 1)) and plainly_parting(ahead, one, other, some)


class CheckerCase(unittest.TestCase):
    def told(self, wanted, checker, *things):
        answer = checker(*things)
        self.assertIs(answer, wanted, things)


class ShowsFewest(CheckerCase):
    WAY = ((0, 1), (1, -1), (3, 1))
    LEVELS = [["a"], ["b"], ["c"]]

    def shown(self, wanted, levels, way=WAY, one="a", other="d", joinings=JOININGS):
        self.told(wanted, shows_fewest, joinings, one, other, way, levels)

    def test_ordinary(self):
        self.shown(True, self.LEVELS)
        self.shown(True, [["a"], ["b"], ["c"]], ((4, 1), (1, -1), (3, 1)))
        self.shown(True, [["d"], ["c", "e"], ["b"]], ((3, -1), (1, 1), (0, -1)), "d", "a")
        self.shown(True, [["a"]], ((0, 1),), "a", "b")

    def test_a_name_and_itself(self):
        for name in ("a", "c", "k"):
            for nothing in ([], ()):
                self.shown(True, nothing, (), name, name)
            self.shown(False, [[]], (), name, name)
            self.shown(False, [[name]], (), name, name)
            self.shown(False, [], ((2, 1),), name, name)
            self.shown(False, [], [], name, name)
            for wrong in (None, "", 0, False, [()], ((),)):
                self.shown(False, wrong, (), name, name)
        self.shown(False, [], (), "a", "b")
        self.shown(False, [["c"]], ((2, 1),), "c", "c")
        self.shown(False, [["a"], ["b"]], ((0, 1), (4, -1)), "a", "a")

    def test_a_way_that_is_not_a_straight_way_there(self):
        for wrong in (((0, 1), (1, -1)), ((0, 1), (3, 1)), (), [], None, ((0, 1), (1, -1), (2, 1), (3, 1))):
            self.shown(False, self.LEVELS, wrong)
            self.shown(False, self.LEVELS + [["d"]], wrong)
            self.shown(False, self.LEVELS[:2], wrong)
        self.shown(False, self.LEVELS, ((0, 1), (1, -1), (1, 1)))
        self.shown(False, self.LEVELS, list(self.WAY))
        self.shown(False, self.LEVELS, tuple([list(pair) for pair in self.WAY]))

    def test_a_way_that_is_not_the_fewest(self):
        joinings = JOININGS + [("d", "b", 0)]
        for many in range(4):
            for levels in itertools.product([["a"], ["b"], ["c"], ["a", "b", "c"], []], repeat=many):
                self.shown(False, list(levels), joinings=joinings)
        self.shown(True, [["a"], ["b"]], ((0, 1), (7, -1)), joinings=joinings)

    def test_as_many_lists_as_joinings(self):
        self.shown(False, [["a"], ["b"]])
        self.shown(False, [["a"], ["b"], ["c"], []])
        self.shown(False, [["a"], ["b"], ["c"], ["e"]])
        self.shown(False, [[], ["a"], ["b"], ["c"]])
        self.shown(False, [["a"], ["b", "c"]])
        self.shown(False, [])

    def test_one_in_the_first(self):
        self.shown(False, [[], ["b"], ["c"]])
        self.shown(False, [["b"], ["a"], ["c"]])
        self.shown(False, [[], ["a", "b"], ["c"]])
        self.shown(False, [[], [], []])
        self.shown(True, [["a", "k", "m"], ["b"], ["c"]])

    def test_other_in_none(self):
        for at in range(3):
            levels = [list(level) for level in self.LEVELS]
            levels[at].append("d")
            self.shown(False, levels)
        self.shown(False, [["a"], ["b"], ["d"]])

    def test_a_name_left_out(self):
        self.shown(False, [["a"], [], ["c"]])
        self.shown(False, [["a"], ["b"], []])
        self.shown(True, [["a"], ["b"]], ((0, 1), (1, -1)), "a", "c")
        # Of the last list nothing is asked.
        self.shown(True, [["d"], ["c", "e"], ["b", "x"]], ((3, -1), (1, 1), (0, -1)), "d", "a")
        self.shown(False, [["d"], ["c"], ["b"]], ((3, -1), (1, 1), (0, -1)), "d", "a")
        self.shown(False, [["d"], ["e"], ["b"]], ((3, -1), (1, 1), (0, -1)), "d", "a")

    def test_a_name_moved(self):
        self.shown(False, [["a"], ["c"], ["b"]])
        self.shown(False, [["a", "c"], ["b"], []])
        self.shown(False, [["a", "c"], ["b"], ["c"]])
        self.shown(False, [["a", "b"], [], ["c"]])
        self.shown(False, [["a", "b"], ["c"], []])

    def test_a_name_twice(self):
        self.shown(True, [["a", "a"], ["b"], ["c"]])
        self.shown(True, [["a"], ["b", "b"], ["c", "c"]])
        self.shown(True, [["a"], ["b", "a"], ["c", "b", "a"]])
        self.shown(True, [["a"], ["b", "a"], ["c", "c", "a"]])
        # What stands in a list is asked there, wherever else it stands.
        self.shown(False, [["a"], ["b", "c"], ["c"]])

    def test_names_of_no_joining(self):
        self.shown(True, [["a", "k"], ["b", "abcdefgh"], ["c", "m", "k"]])
        for wrong in ("", "A", "a b", "abcdefghi", "k1", "ab-", "K", "\u00e4", "\u0430", 0, True, None, [], ("k",)):
            for at in range(3):
                levels = [list(level) for level in self.LEVELS]
                levels[at].append(wrong)
                self.shown(False, levels)

    def test_joinings_of_other_classes_are_asked_too(self):
        self.shown(False, [["a", "x"], ["b"], ["c"]])
        self.shown(False, [["a"], ["b", "y"], ["c"]])
        self.shown(True, [["a"], ["b"], ["c", "x"]])
        self.shown(True, [["a"], ["b", "x"], ["c", "y"]])
        self.shown(True, [["a", "y"], ["b", "x"], ["c"]])
        self.shown(True, [["a", "x", "y"], ["b"], ["c"]])

    def test_this_list_the_next_or_any_ahead_of_it(self):
        joinings = [("a", "b", 0), ("b", "c", 0), ("c", "d", 0), ("d", "e", 0), ("m", "n", 0)]
        way = ((0, 1), (1, 1), (2, 1), (3, 1))
        plain = [["a"], ["b"], ["c"], ["d"]]
        for first, second in itertools.product(range(-1, 4), repeat=2):
            levels = [list(level) for level in plain]
            if first >= 0:
                levels[first].append("m")
            if second >= 0:
                levels[second].append("n")
            near = (first in (-1, 3) or -1 < second <= first + 1) and (second in (-1, 3) or -1 < first <= second + 1)
            self.shown(near, levels, way, "a", "e", joinings)
            turned = joinings[:4] + [("n", "m", 0)]
            self.shown(near, levels, way, "a", "e", turned)

    def test_a_joining_of_a_name_with_itself(self):
        joinings = [("a", "b", 0), ("b", "c", 0), ("a", "a", 0), ("b", "b", 0), ("c", "c", 0), ("k", "k", 0)]
        self.shown(True, [["a"], ["b"]], ((0, 1), (1, 1)), "a", "c", joinings)
        self.shown(True, [["a", "k"], ["b"]], ((0, 1), (1, 1)), "a", "c", joinings)

    def test_tuples_do_for_lists_and_texts_do_not(self):
        self.shown(True, (("a",), ("b",), ("c",)))
        self.shown(True, [("a",), ["b"], ("c",)])
        self.shown(False, ["a", "b", "c"])
        self.shown(False, "abc")
        self.shown(False, ("a", ["b"], ["c"]))

    def test_things_of_any_kind(self):
        for thing in ODD + [deep(list, "a", 9), deep(tuple, "b", 10)]:
            self.shown(False, thing)
            self.shown(False, self.LEVELS, thing)
            self.shown(plainly_fewest(JOININGS, "a", "b", thing, [["a"]]), [["a"]], thing, "a", "b")
            self.shown(False, thing, thing)
            for at in range(3):
                wanted = plainly_fewest(JOININGS, "a", "d", self.WAY, self.LEVELS[:at] + [thing] + self.LEVELS[at + 1:])
                self.shown(wanted, self.LEVELS[:at] + [thing] + self.LEVELS[at + 1:])

    def test_spoilt_by_one_thing(self):
        kinds = set()
        papers = [("a", "d", self.WAY, self.LEVELS), ("d", "a", ((3, -1), (1, 1), (4, -1)), (["d"], ["e", "c"], ["b"]))]
        papers += [("c", "c", (), []), ("x", "y", ((6, 1),), [("x",)])]
        for one, other, way, levels in papers:
            self.shown(True, levels, way, one, other)
            for wrong in spoilt(levels):
                wanted = plainly_fewest(JOININGS, one, other, way, wrong)
                kinds.add(wanted)
                self.shown(wanted, wrong, way, one, other)
            for wrong in spoilt(way):
                wanted = plainly_fewest(JOININGS, one, other, wrong, levels)
                kinds.add(wanted)
                self.shown(wanted, levels, wrong, one, other)
        self.assertEqual(kinds, {True, False})

    def test_all_small_levels(self):
        groups = [list(group) for many in range(3) for group in itertools.combinations("abk", many)]
        kinds = set()
        for joinings in small_joinings(["a", "b", "c"], (0,), 2):
            for way in ((), ((0, 1),), ((1, -1),), ((0, 1), (1, 1)), ((1, -1), (0, 1))):
                for levels in itertools.product(groups, repeat=len(way)):
                    wanted = plainly_fewest(joinings, "a", "c", way, levels)
                    kinds.add((wanted, len(way)))
                    self.told(wanted, shows_fewest, joinings, "a", "c", way, levels)
                    if wanted:
                        self.assertEqual(len(fewest_way(joinings, "a", "c")), len(way))
        self.assertEqual({many for wanted, many in kinds if wanted}, {1, 2})

    def test_what_is_told_is_shown(self):
        chance = random.Random(1)
        shown = 0
        for again in range(300):
            names = chance.sample(FORTY, chance.randrange(1, 41))
            joinings = some_joinings(chance, names, chance.randrange(0, 70), (0, 1))
            one, other = chance.choice(names), chance.choice(names)
            way, levels = fewest_way(joinings, one, other), levels_of(joinings, one, other)
            if way is not None:
                shown += 1
                self.told(True, shows_fewest, joinings, one, other, way, levels)
                self.told(way == (), shows_fewest, joinings, one, other, (), [])
                if way:
                    self.told(False, shows_fewest, joinings, one, other, way, levels[1:])
                    self.told(False, shows_fewest, joinings, one, other, way[:-1], levels[:-1])
            else:
                self.told(False, shows_fewest, joinings, one, other, way, levels)
        self.assertGreater(shown, 100)

    def test_forty_names_with_a_long_row_among_them(self):
        chance = random.Random(2)
        for again in range(20):
            joinings = long_row_among(chance, 120)
            one, other = FORTY[0], FORTY[39]
            way, levels = fewest_way(joinings, one, other), levels_of(joinings, one, other)
            self.told(True, shows_fewest, joinings, one, other, way, levels)
            longer = eldest_way(joinings, one, other)
            if len(longer) > len(way):
                filled = levels + [[] for more in longer[len(way):]]
                self.told(False, shows_fewest, joinings, one, other, longer, filled)
                self.told(False, shows_fewest, joinings, one, other, longer, levels)
            for more in range(60):
                at = chance.randrange(len(levels))
                spare = [list(level) for level in levels]
                spare[chance.randrange(len(levels))].append(spare[at].pop(chance.randrange(len(spare[at]))))
                wanted = plainly_fewest(joinings, one, other, way, spare)
                self.told(wanted, shows_fewest, joinings, one, other, way, spare)


class ShowsSince(CheckerCase):
    LIST = [("a", "b", 3), ("d", "c", 5), ("b", "a", 7), ("b", "c", 2), ("a", "d", 3), ("d", "d", 0), ("e", "d", 1)]
    WAY = ((0, 1), (3, 1), (1, -1))

    def shown(self, wanted, n, way, some, one="a", other="d"):
        self.told(wanted, shows_since, self.LIST, one, other, n, way, some)

    def test_ordinary(self):
        self.shown(True, 3, self.WAY, ["a", "b"])
        self.shown(True, 3, ((2, -1), (3, 1), (1, -1)), ["b", "a"])
        self.shown(True, 3, ((1, 1), (3, -1), (0, -1)), ["c", "d"], "d", "a")
        self.shown(True, 0, ((0, 1),), ["a"], "a", "b")
        self.shown(True, 1, ((1, 1),), ["d"], "d", "c")
        self.shown(True, 6, ((0, 1), (3, 1), (1, -1), (6, -1)), ["a", "b", "c", "d"], "a", "e")
        self.shown(True, 6, ((4, 1), (6, -1)), ["a", "b", "c", "d"], "a", "e")
        self.shown(True, 6, ((6, 1), (4, -1)), ["e"], "e", "a")

    def test_n_of_a_name_and_itself(self):
        for name in ("a", "d", "k"):
            self.shown(True, -1, (), [], name, name)
            self.shown(True, -1, (), (), name, name)
            for n in (0, 1, 6, 7, -2, 10 ** 40, -10 ** 40, True, False, None, "", "-1", [-1], (-1,)):
                self.shown(False, n, (), [], name, name)
                self.shown(False, n, (), [name], name, name)
                self.shown(False, n, (), ["b"], name, name)
            for some in ([name], ["b"], [[]], "", None, 0, False, ((),)):
                self.shown(False, -1, (), some, name, name)
            for way in ([], ((5, 1),), ((0, 1), (2, 1)), "", None, 0, False, ((),)):
                self.shown(False, -1, way, [], name, name)

    def test_n_of_minus_one_for_two_names(self):
        self.shown(False, -1, (), [])
        self.shown(False, -1, (), ["a"])
        self.shown(False, -1, self.WAY, [])
        self.shown(False, -1, self.WAY, ["a", "b"])

    def test_another_n(self):
        for n in (-10 ** 40, -8, -4, -2, -1, 0, 1, 2, 4, 5, 6, 7, 8, 10 ** 12, 10 ** 40):
            self.shown(False, n, self.WAY, ["a", "b"])
        # The way is by numbers up to n, but they were together ahead of it.
        for some in (["a"], ["a", "b"], ["a", "b", "c"], []):
            self.shown(False, 4, ((4, 1),), some)
        # They aren't together ahead of n, but the way is by greater numbers.
        self.shown(False, 3, ((4, 1),), ["a", "b"])
        self.shown(False, 2, self.WAY, ["a", "b"])

    def test_n_is_a_number(self):
        alike = [("k", "k", 0), ("a", "b", 0)]
        self.told(True, shows_since, alike, "a", "b", 1, ((1, 1),), ["a"])
        for wrong in (True, False, None, "1", "", [], (), [1], (1,), (1, 1)):
            self.told(False, shows_since, alike, "a", "b", wrong, ((1, 1),), ["a"])
        self.told(True, shows_since, alike[1:], "a", "b", 0, ((0, 1),), ["a"])
        self.told(False, shows_since, alike[1:], "a", "b", False, ((0, 1),), ["a"])

    def test_n_beyond_the_end(self):
        for n in (7, 8, 140, 10 ** 40):
            for some in ([], ["a"], ["a", "b"], ["a", "b", "c"], ["a", "b", "c", "e"]):
                self.shown(False, n, self.WAY, some)
                self.shown(False, n, ((4, 1),), some)
        self.told(False, shows_since, [], "a", "b", 0, (), ["a"])

    def test_some(self):
        self.shown(True, 3, self.WAY, ("b", "a"))
        for wrong in ([], ["a"], ["b"], ["a", "b", "c"], ["a", "b", "d"], ["a", "b", "c", "d"], ["c", "d"], "ab", None):
            self.shown(False, 3, self.WAY, wrong)
        self.shown(False, 3, self.WAY, ["a", "b", "a"])
        self.shown(False, 3, self.WAY, ["a", "b", "b"])
        self.shown(False, 3, self.WAY, [["a", "b"]])
        self.shown(False, 3, self.WAY, ["ab"])

    def test_names_of_no_joining(self):
        self.shown(True, 3, self.WAY, ["a", "k", "b", "abcdefgh"])
        self.shown(True, 3, self.WAY, ["a", "b", "e"])
        self.shown(False, 3, self.WAY, ["a", "b", "k", "k"])
        for wrong in ("", "A", "a b", "abcdefghi", "k1", "\u00e4", 0, True, None, [], (), ["k"], ("k",)):
            self.shown(False, 3, self.WAY, ["a", "b", wrong])
            self.shown(False, 3, self.WAY, [wrong, "a", "b"])

    def test_only_joinings_below_n_are_asked(self):
        joinings = [("a", "b", 0), ("b", "c", 0), ("a", "k", 0), ("m", "a", 0)]
        self.told(True, shows_since, joinings, "a", "c", 1, ((0, 1), (1, 1)), ["a", "b"])
        self.told(False, shows_since, joinings[::-1], "a", "c", 3, ((3, 1), (2, 1)), ["a", "b"])
        self.told(True, shows_since, joinings[::-1], "a", "c", 3, ((3, 1), (2, 1)), ["a", "k", "m"])
        self.told(False, shows_since, joinings[::-1], "a", "c", 3, ((3, 1), (2, 1)), ["a", "m"])

    def test_a_way_that_is_wrong(self):
        for wrong in ((), self.WAY[:2], self.WAY[1:], self.WAY + ((5, 1),), self.WAY + self.WAY[-1:], self.WAY[::-1]):
            self.shown(False, 3, wrong, ["a", "b"])
        for at, (number, side) in enumerate(self.WAY):
            pairs = [(number, -side), (number, 0), (number, 2), (number - 7, side), (7, side), (number, True)]
            pairs += [(True, side), (False, side), [number, side], (number,), (number, side, 0), None, (None, 1)]
            for pair in pairs:
                self.shown(False, 3, self.WAY[:at] + (pair,) + self.WAY[at + 1:], ["a", "b"])
        self.shown(False, 3, list(self.WAY), ["a", "b"])

    def test_things_of_any_kind(self):
        for thing in ODD:
            self.shown(plainly_since(self.LIST, "a", "d", thing, self.WAY, ["a", "b"]), thing, self.WAY, ["a", "b"])
            self.shown(False, 3, thing, ["a", "b"])
            self.shown(plainly_since(self.LIST, "a", "d", 3, self.WAY, thing), 3, self.WAY, thing)
            self.shown(False, thing, thing, thing)
            self.shown(False, thing, thing, thing, "a", "a")

    def test_spoilt_by_one_thing(self):
        kinds = set()
        papers = [("a", "d", 3, self.WAY, ["a", "b"]), ("e", "b", 6, ((6, 1), (4, -1), (0, 1)), ("e", "k"))]
        papers += [("a", "b", 0, ((0, 1),), ["a"]), ("c", "c", -1, (), [])]
        for one, other, n, way, some in papers:
            self.shown(True, n, way, some, one, other)
            for place, right in enumerate((n, way, some)):
                for wrong in spoilt(right):
                    paper = [n, way, some]
                    paper[place] = wrong
                    wanted = plainly_since(self.LIST, one, other, *paper)
                    kinds.add((place, wanted))
                    self.shown(wanted, *paper, one, other)
        self.assertEqual(kinds, set(itertools.product(range(3), (True, False))))

    def test_all_small_papers(self):
        groups = [list(group) for many in range(4) for group in itertools.combinations("abck", many)]
        ways = [(), ((0, 1),), ((0, -1),), ((1, 1),), ((0, 1), (1, 1)), ((1, -1), (0, 1))]
        for joinings in small_joinings(["a", "b", "c"], (0,), 2):
            shown = set()
            for n, way, some in itertools.product(range(-2, 4), ways, groups):
                wanted = plainly_since(joinings, "a", "c", n, way, some)
                self.told(wanted, shows_since, joinings, "a", "c", n, way, some)
                if wanted:
                    shown.add(n)
            self.assertLessEqual(shown, {since(joinings, "a", "c")})

    def test_what_is_told_is_shown(self):
        chance = random.Random(3)
        shown = 0
        for again in range(200):
            names = chance.sample(FORTY, chance.randrange(1, 41))
            joinings = some_joinings(chance, names, chance.randrange(0, 60), (0, 1))
            one, other = chance.choice(names), chance.choice(names)
            n, way = since(joinings, one, other), eldest_way(joinings, one, other)
            if n is None:
                self.told(False, shows_since, joinings, one, other, n, way, [one])
            elif n == -1:
                self.told(True, shows_since, joinings, one, other, n, way, [])
            else:
                shown += 1
                some = [group for group in plain_classes(names, joinings[:n]) if one in group][0]
                self.told(True, shows_since, joinings, one, other, n, way, some)
                self.told(False, shows_since, joinings, other, one, n, way, some)
                for wrong in (n - 1, n + 1, -1, len(joinings)):
                    self.told(False, shows_since, joinings, one, other, wrong, way, some)
        self.assertGreater(shown, 50)

    def test_forty_names_with_a_long_row_among_them(self):
        chance = random.Random(4)
        for again in range(10):
            joinings = long_row_among(chance, 120)
            one, other = FORTY[0], FORTY[39]
            n, way = since(joinings, one, other), eldest_way(joinings, one, other)
            some = [group for group in plain_classes(FORTY, joinings[:n]) if one in group][0]
            self.told(True, shows_since, joinings, one, other, n, way, some)
            self.told(False, shows_since, joinings, one, other, n + 1, way, some)
            self.assertTrue(are_together(joinings[:n + 1], one, other))


class HandedIn(CheckerCase):
    def test_tuples_do_for_lists(self):
        joinings = (("a", "b", 3), ("c", "b", 5))
        self.told(True, shows_fewest, joinings, "a", "c", ((0, 1), (1, -1)), (("a",), ("b",)))
        self.told(True, shows_since, joinings, "a", "c", 1, ((0, 1), (1, -1)), ("a", "b"))
        self.told(True, shows_fewest, (), "a", "a", (), ())
        self.told(True, shows_since, (), "a", "a", -1, (), ())

    def test_what_is_handed_in_stays(self):
        joinings = [("c", "b", 5), ("a", "b", 3), ("b", "b", 0)]
        levels, some, mixed = [["a"], ["b", "a"]], ["b", "c"], [["c", ["a"]], ("d", [0]), [], "a"]
        for way in (((1, 1), (0, -1)), ((1, 1),), mixed):
            shows_fewest(joinings, "a", "c", way, levels)
            shows_fewest(joinings, "a", "c", way, mixed)
            shows_since(joinings, "c", "a", 1, way, some)
            shows_since(joinings, "c", "a", mixed, way, mixed)
        self.told(True, shows_fewest, joinings, "a", "c", ((1, 1), (0, -1)), levels)
        self.told(True, shows_since, joinings, "c", "a", 1, ((0, 1), (1, -1)), some)
        self.assertEqual(joinings, [("c", "b", 5), ("a", "b", 3), ("b", "b", 0)])
        self.assertEqual(levels, [["a"], ["b", "a"]])
        self.assertEqual(some, ["b", "c"])
        self.assertEqual(mixed, [["c", ["a"]], ("d", [0]), [], "a"])

    def test_the_same_question_is_told_the_same(self):
        joinings, levels, some = [("a", "b", 3), ("c", "b", 5)], [["a"], ["b"]], ["a", "b"]
        for again in range(3):
            self.told(True, shows_fewest, joinings, "a", "c", ((0, 1), (1, -1)), levels)
            self.told(True, shows_since, joinings, "a", "c", 1, ((0, 1), (1, -1)), some)
        levels[1].clear()
        some.pop()
        self.told(False, shows_fewest, joinings, "a", "c", ((0, 1), (1, -1)), levels)
        self.told(False, shows_since, joinings, "a", "c", 1, ((0, 1), (1, -1)), some)

    def test_ten_deep(self):
        joinings = [("a", "b", 0)]
        for kind, inner in itertools.product((list, tuple), (0, True, None, "a", (0, 1), ["a"], ("a", 0))):
            for many in range(2, 11):
                thing = deep(kind, inner, many)
                for way, levels in ((thing, [["a"]]), (((0, 1),), thing)):
                    wanted = plainly_fewest(joinings, "a", "b", way, levels)
                    self.told(wanted, shows_fewest, joinings, "a", "b", way, levels)
                for n, way, some in ((thing, ((0, 1),), ["a"]), (0, thing, ["a"]), (0, ((0, 1),), thing)):
                    self.told(False, shows_since, joinings, "a", "b", n, way, some)


if __name__ == "__main__":
    unittest.main()
