import itertools
import random
import unittest

from helper import FAR, FORTY, TURNS, plain_classes, some_joinings
from joinback.errors import BadName, BadRow, Clash, JoinError, NoJoin, NoMoment, NoName
from joinback.plain import apart, classes, numbers_of
from joinback.steps import counted, led, steps_of


def is_ring(joinings, name, ring):
    """Whether it is a ring from the name, as the document tells it."""
    numbers = [number for number, side in ring]
    met = [led(joinings, name, ring[:many]) for many in range(1, len(ring) + 1)]
    return (
        isinstance(ring, tuple)
        and len(ring) > 0
        and all(isinstance(pair, tuple) and len(pair) == 2 and pair[1] in (1, -1) for pair in ring)
        and len(set(numbers)) == len(numbers)
        and None not in met
        and met[-1] == name
        and len(set(met)) == len(met)
    )


def numbers_by_trying(names, joinings, turn):
    """All rows of counted numbers that come out and give each least name 0."""
    least = {name: group[0] for group in plain_classes(names, joinings) for name in group}
    found = []
    for tried in itertools.product(range(turn), repeat=len(names)):
        number = dict(zip(names, tried))
        comes_out = all((number[one] + step - number[other]) % turn == 0 for one, other, step in joinings)
        if comes_out and all(number[least[name]] == 0 for name in names):
            found.append(sorted(number.items()))
    return found


def long_chain(many):
    """Joinings along all forty names in one chain, gone through again, turned about at times."""
    joinings = []
    for at in range(many):
        low = at % 39
        step = (-1) ** low * (FAR - low)
        if at % 2 == 0:
            joinings.append((FORTY[low], FORTY[low + 1], step))
        else:
            joinings.append((FORTY[low + 1], FORTY[low], -step))
    return joinings


class PlainCase(unittest.TestCase):
    def check_numbers(self, names, joinings, turn):
        """Each answer bears its own proof: numbers that come out, or a ring that doesn't."""
        told = numbers_of(names, joinings, turn)
        self.assertIsInstance(told, tuple)
        if told[0] == "ring":
            word, name, ring = told
            self.assertIn(name, names)
            self.assertTrue(is_ring(joinings, name, ring), (joinings, told))
            self.assertNotEqual(steps_of(joinings, turn, ring), 0)
        else:
            word, rows = told
            self.assertEqual(word, "numbers")
            self.assertIsInstance(rows, list)
            self.assertTrue(all(isinstance(row, tuple) for row in rows))
            self.assertEqual([name for name, number in rows], sorted(names))
            number = dict(rows)
            for one, other, step in joinings:
                self.assertEqual(counted(turn, number[one] + step), counted(turn, number[other]))
            for group in plain_classes(names, joinings):
                self.assertEqual(number[group[0]], 0)
            for value in number.values():
                self.assertEqual(value, counted(turn, value))
        return told


class Classes(PlainCase):
    def test_ordinary(self):
        joinings = [("d", "b", 1), ("e", "a", 4), ("b", "f", 0)]
        self.assertEqual(classes(["f", "e", "d", "c", "b", "a"], joinings), [["a", "e"], ["b", "d", "f"], ["c"]])

    def test_no_names_at_all(self):
        self.assertEqual(classes([], []), [])

    def test_one_name(self):
        self.assertEqual(classes(["k"], []), [["k"]])
        self.assertEqual(classes(["k"], [("k", "k", 3)]), [["k"]])

    def test_no_joinings(self):
        self.assertEqual(classes(["c", "a", "b"], []), [["a"], ["b"], ["c"]])

    def test_names_rise_as_texts(self):
        self.assertEqual(classes(["b", "ab", "aa", "a"], [("b", "aa", 1)]), [["a"], ["aa", "b"], ["ab"]])

    def test_steps_do_not_matter(self):
        joinings = [("a", "b", 1), ("a", "b", 2), ("c", "c", 5)]
        self.assertEqual(classes(["a", "b", "c"], joinings), [["a", "b"], ["c"]])

    def test_long_chains(self):
        self.assertEqual(classes(FORTY, long_chain(39)), [sorted(FORTY)])
        self.assertEqual(classes(FORTY[::-1], long_chain(140)), [sorted(FORTY)])
        self.assertEqual(classes(FORTY, long_chain(39)[::-1]), [sorted(FORTY)])
        broken = [joining for joining in long_chain(140) if FORTY[20] not in joining]
        self.assertEqual(classes(FORTY, broken), [FORTY[:20], [FORTY[20]], FORTY[21:]])

    def test_against_the_other_road(self):
        chance = random.Random(1)
        for again in range(600):
            names = chance.sample(FORTY, chance.randrange(1, 41))
            joinings = some_joinings(chance, names, chance.randrange(0, 60), (0, 1, -3))
            self.assertEqual(classes(names, joinings), plain_classes(names, joinings))


class NumbersOf(PlainCase):
    def test_ordinary(self):
        joinings = [("b", "a", 2), ("c", "b", -7), ("e", "d", 1)]
        told = numbers_of(["e", "d", "c", "b", "a"], joinings, 0)
        self.assertEqual(told, ("numbers", [("a", 0), ("b", -2), ("c", 5), ("d", 0), ("e", -1)]))

    def test_counted(self):
        joinings = [("b", "a", 2), ("c", "b", -7)]
        wanted = {1: [0, 0, 0], 2: [0, 0, 1], 3: [0, 1, 2], 1000: [0, 998, 5]}
        for turn, numbers in wanted.items():
            with self.subTest(turn=turn):
                told = numbers_of(["c", "b", "a"], joinings, turn)
                self.assertEqual(told, ("numbers", list(zip("abc", numbers))))

    def test_no_names_at_all(self):
        for turn in TURNS:
            self.assertEqual(numbers_of([], [], turn), ("numbers", []))

    def test_one_name(self):
        for turn in TURNS:
            self.assertEqual(numbers_of(["k"], [], turn), ("numbers", [("k", 0)]))

    def test_a_joining_of_a_name_with_itself(self):
        self.assertEqual(numbers_of(["k"], [("k", "k", 0)], 0), ("numbers", [("k", 0)]))
        told = self.check_numbers(["k"], [("k", "k", 4)], 0)
        self.assertEqual((told[0], told[1], len(told[2]), told[2][0][0]), ("ring", "k", 1, 0))
        self.assertEqual(numbers_of(["k"], [("k", "k", 4)], 1)[0], "numbers")
        self.assertEqual(numbers_of(["k"], [("k", "k", 4)], 2)[0], "numbers")
        self.assertEqual(self.check_numbers(["k"], [("k", "k", 4)], 3)[0], "ring")
        self.assertEqual(numbers_of(["k"], [("k", "k", -4000)], 1000)[0], "numbers")
        self.assertEqual(self.check_numbers(["k"], [("k", "k", 4001)], 1000)[0], "ring")

    def test_alike_joinings(self):
        alike = [("a", "b", 5), ("a", "b", 5)]
        self.assertEqual(numbers_of(["a", "b"], alike, 0), ("numbers", [("a", 0), ("b", 5)]))
        unlike = [("a", "b", 5), ("a", "b", 7)]
        told = self.check_numbers(["a", "b"], unlike, 0)
        self.assertEqual((told[0], sorted([number for number, side in told[2]])), ("ring", [0, 1]))
        self.assertEqual(numbers_of(["a", "b"], unlike, 2), ("numbers", [("a", 0), ("b", 1)]))

    def test_joinings_turned_about(self):
        turned = [("a", "b", 5), ("b", "a", -5)]
        self.assertEqual(numbers_of(["a", "b"], turned, 0), ("numbers", [("a", 0), ("b", 5)]))
        wrong = [("a", "b", 5), ("b", "a", 5)]
        told = self.check_numbers(["a", "b"], wrong, 0)
        self.assertEqual((told[0], len(told[2])), ("ring", 2))
        self.assertEqual(numbers_of(["a", "b"], wrong, 2), ("numbers", [("a", 0), ("b", 1)]))
        self.assertEqual(numbers_of(["a", "b"], wrong, 10), ("numbers", [("a", 0), ("b", 5)]))
        self.assertEqual(self.check_numbers(["a", "b"], wrong, 1000)[0], "ring")

    def test_steps_that_come_out_only_by_the_turn(self):
        joinings = [("a", "b", 1), ("b", "c", 1), ("c", "a", 1)]
        self.assertEqual(self.check_numbers(["a", "b", "c"], joinings, 0)[0], "ring")
        self.assertEqual(self.check_numbers(["a", "b", "c"], joinings, 2)[0], "ring")
        told = numbers_of(["a", "b", "c"], joinings, 3)
        self.assertEqual(told, ("numbers", [("a", 0), ("b", 1), ("c", 2)]))

    def test_by_a_turn_of_one_nothing_clashes(self):
        chance = random.Random(2)
        joinings = some_joinings(chance, FORTY, 140, range(-9, 9))
        self.assertEqual(numbers_of(FORTY, joinings, 1), ("numbers", [(name, 0) for name in sorted(FORTY)]))

    def test_a_ring_of_any_class_is_told(self):
        joinings = [("a", "b", 1), ("y", "z", 1), ("z", "y", 1)]
        told = self.check_numbers(["a", "b", "y", "z"], joinings, 0)
        self.assertEqual((told[0], sorted([number for number, side in told[2]])), ("ring", [1, 2]))

    def test_a_ring_is_told_without_what_hangs_on_it(self):
        joinings = [("a", "b", 1), ("b", "c", 1), ("c", "d", 1), ("d", "e", 1), ("e", "c", 1), ("e", "f", 1)]
        told = self.check_numbers(list("abcdef"), joinings, 0)
        self.assertEqual(sorted([number for number, side in told[2]]), [2, 3, 4])

    def test_far_steps(self):
        joinings = [("a", "b", FAR), ("b", "c", FAR), ("c", "d", -FAR), ("e", "a", FAR)]
        told = numbers_of(list("abcde"), joinings, 0)
        wanted = [("a", 0), ("b", FAR), ("c", 2 * FAR), ("d", FAR), ("e", -FAR)]
        self.assertEqual(told, ("numbers", wanted))
        self.assertEqual(self.check_numbers(list("abcde"), joinings + [("a", "d", FAR)], 0)[0], "numbers")
        self.assertEqual(self.check_numbers(list("abcde"), joinings + [("a", "d", FAR - 1)], 0)[0], "ring")
        self.assertEqual(self.check_numbers(list("abcde"), joinings + [("a", "d", -FAR)], 1000)[0], "numbers")
        self.assertEqual(self.check_numbers(list("abcde"), joinings + [("a", "d", 1 - FAR)], 1000)[0], "ring")

    def test_long_chains(self):
        for turn in TURNS:
            for many in (39, 140):
                self.assertEqual(self.check_numbers(FORTY, long_chain(many), turn)[0], "numbers")
        closed = long_chain(39) + [(FORTY[39], FORTY[0], 1)]
        told = self.check_numbers(FORTY[::-1], closed, 0)
        self.assertEqual((told[0], len(told[2])), ("ring", 40))
        wrong = long_chain(139) + [(FORTY[38], FORTY[39], 12)]
        self.assertEqual(self.check_numbers(FORTY, wrong, 0)[0], "ring")

    def test_all_small_cases(self):
        names = ["b", "a", "c"]
        each = list(itertools.product(names, names, (-1, 0, 2)))
        for many in (0, 1, 2):
            for joinings in itertools.product(each, repeat=many):
                for turn in TURNS:
                    self.check_numbers(names, list(joinings), turn)

    def test_against_all_numbers_tried(self):
        chance = random.Random(3)
        kinds = set()
        for again in range(400):
            turn = chance.randrange(1, 4)
            names = chance.sample(FORTY, chance.randrange(0, 5))
            joinings = some_joinings(chance, names, chance.randrange(0, 6), range(-5, 6)) if names else []
            told = numbers_of(names, joinings, turn)
            found = numbers_by_trying(names, joinings, turn)
            kinds.add(told[0])
            self.assertEqual(found, [told[1]] if told[0] == "numbers" else [])
        self.assertEqual(kinds, {"numbers", "ring"})

    def test_many_larger_cases(self):
        chance = random.Random(4)
        kinds = set()
        for again in range(600):
            names = chance.sample(FORTY, chance.randrange(1, 41))
            place = {name: chance.randrange(-FAR, FAR) for name in names}
            turn = chance.choice(TURNS + (7, 60))
            joinings = []
            for one, other, step in some_joinings(chance, names, chance.randrange(0, 141), (0, 0, 7)):
                joinings.append((one, other, place[other] - place[one] + step * turn))
            kinds.add(self.check_numbers(names, joinings, turn)[0])
            self.assertEqual(numbers_of(names, joinings, turn)[0], "numbers")
            one, other = chance.choice(names), chance.choice(names)
            joinings.insert(chance.randrange(len(joinings) + 1), (one, other, chance.randrange(-9, 9)))
            kinds.add(self.check_numbers(names, joinings, turn)[0])
        self.assertEqual(kinds, {"numbers", "ring"})


class Apart(PlainCase):
    def test_ordinary(self):
        joinings = [("b", "a", 2), ("c", "b", -7), ("e", "d", 1)]
        names = ["e", "d", "c", "b", "a"]
        told = [("a", "c", 5), ("c", "a", -5), ("b", "c", 7), ("d", "e", -1), ("e", "d", 1)]
        for one, other, steps in told:
            with self.subTest(one=one, other=other):
                self.assertEqual(apart(names, joinings, 0, one, other), steps)

    def test_told_counted(self):
        joinings = [("b", "a", 2), ("c", "b", -7)]
        for turn, steps in ((1, 0), (2, 1), (3, 1), (7, 2), (1000, 995)):
            with self.subTest(turn=turn):
                self.assertEqual(apart(["a", "b", "c"], joinings, turn, "c", "a"), steps)

    def test_not_together(self):
        joinings = [("a", "b", 0), ("c", "d", 0)]
        for one, other in (("a", "c"), ("d", "b"), ("e", "a"), ("a", "e")):
            for turn in TURNS:
                self.assertIsNone(apart(list("abcde"), joinings, turn, one, other))

    def test_a_name_and_itself(self):
        for turn in TURNS:
            self.assertEqual(apart(["k"], [], turn, "k", "k"), 0)
            self.assertEqual(apart(["k", "m"], [("m", "k", 5), ("k", "k", 0)], turn, "m", "m"), 0)

    def test_nought_steps_are_not_none(self):
        self.assertEqual(apart(["a", "b"], [("a", "b", 0)], 0, "a", "b"), 0)
        self.assertEqual(apart(["a", "b"], [("a", "b", 6)], 3, "b", "a"), 0)

    def test_far_steps(self):
        joinings = [("a", "b", FAR), ("c", "b", -FAR)]
        self.assertEqual(apart(list("abc"), joinings, 0, "a", "c"), 2 * FAR)
        self.assertEqual(apart(list("abc"), joinings, 0, "c", "a"), -2 * FAR)
        self.assertEqual(apart(list("abc"), joinings, 1000, "c", "a"), 0)

    def test_a_long_chain(self):
        for many in (39, 140):
            chain = long_chain(many)
            total = sum([(-1) ** low * (FAR - low) for low in range(39)])
            self.assertEqual(apart(FORTY, chain, 0, FORTY[0], FORTY[39]), total)
            self.assertEqual(apart(FORTY, chain, 0, FORTY[39], FORTY[0]), -total)
            self.assertEqual(apart(FORTY, chain, 2, FORTY[0], FORTY[39]), total % 2)

    def test_the_clash(self):
        names, joinings = ["a", "b", "c"], [("a", "b", 1), ("b", "c", 1), ("c", "a", 1)]
        with self.assertRaises(Clash) as taken:
            apart(names, joinings, 0, "a", "b")
        error = taken.exception
        self.assertIs(error.__class__, Clash)
        self.assertIsInstance(error, JoinError)
        self.assertIsInstance(error, ValueError)
        self.assertFalse(isinstance(error, (BadName, BadRow, NoName, NoJoin, NoMoment)))
        self.assertIsInstance(error.ring, tuple)
        name, ring = error.ring
        self.assertTrue(is_ring(joinings, name, ring))
        self.assertNotEqual(steps_of(joinings, 0, ring), 0)
        self.assertEqual(("ring", name, ring), numbers_of(names, joinings, 0))

    def test_what_comes_out_by_the_turn_is_no_clash(self):
        joinings = [("a", "b", 1), ("b", "c", 1), ("c", "a", 1)]
        self.assertEqual(apart(["a", "b", "c"], joinings, 3, "a", "c"), 2)
        self.assertEqual(apart(["a", "b", "c"], joinings, 1, "a", "c"), 0)

    def test_a_clash_in_another_class(self):
        names, joinings = list("abcyz"), [("a", "b", 1), ("y", "z", 1), ("z", "y", 1)]
        for one, other in (("a", "b"), ("a", "c"), ("a", "y"), ("c", "c"), ("a", "a"), ("y", "y")):
            with self.subTest(one=one, other=other):
                with self.assertRaises(Clash) as taken:
                    apart(names, joinings, 0, one, other)
                name, ring = taken.exception.ring
                self.assertTrue(is_ring(joinings, name, ring))
                self.assertNotEqual(steps_of(joinings, 0, ring), 0)
        self.assertEqual(apart(names, joinings, 2, "a", "b"), 1)

    def test_a_clash_of_a_name_with_itself(self):
        with self.assertRaises(Clash) as taken:
            apart(["a", "b"], [("b", "b", 1)], 0, "a", "a")
        self.assertEqual(taken.exception.ring[0], "b")
        self.assertEqual([number for number, side in taken.exception.ring[1]], [0])

    def test_against_numbers(self):
        chance = random.Random(5)
        for again in range(200):
            names = chance.sample(FORTY, chance.randrange(1, 12))
            turn = chance.choice(TURNS)
            joinings = some_joinings(chance, names, chance.randrange(0, 10), (-2, 0, 6))
            told = numbers_of(names, joinings, turn)
            fellows = {name: group for group in plain_classes(names, joinings) for name in group}
            for one, other in itertools.product(names, names):
                if told[0] == "ring":
                    with self.assertRaises(Clash) as taken:
                        apart(names, joinings, turn, one, other)
                    self.assertEqual(taken.exception.ring, told[1:])
                elif other in fellows[one]:
                    number = dict(told[1])
                    wanted = counted(turn, number[other] - number[one])
                    self.assertEqual(apart(names, joinings, turn, one, other), wanted)
                else:
                    self.assertIsNone(apart(names, joinings, turn, one, other))


class HandedInAndTold(PlainCase):
    NAMES = ["d", "c", "b", "a"]
    JOININGS = [("c", "a", 3), ("d", "b", 1), ("a", "c", -3)]
    WRONG = [("c", "a", 3), ("d", "b", 1), ("a", "c", 3)]

    def test_tuples_do_for_lists(self):
        names, joinings, wrong = tuple(self.NAMES), tuple(self.JOININGS), tuple(self.WRONG)
        self.assertEqual(classes(names, joinings), [["a", "c"], ["b", "d"]])
        for turn in TURNS:
            self.assertEqual(numbers_of(names, joinings, turn), numbers_of(self.NAMES, self.JOININGS, turn))
            self.assertEqual(numbers_of(names, wrong, turn), numbers_of(self.NAMES, self.WRONG, turn))
        self.assertEqual(apart(names, joinings, 0, "c", "a"), 3)
        with self.assertRaises(Clash):
            apart(names, wrong, 0, "c", "a")
        self.assertEqual(classes((), ()), [])
        self.assertEqual(numbers_of((), (), 0), ("numbers", []))

    def test_what_is_handed_in_stays(self):
        # Written out here, as an earlier test could have changed the shared lists.
        for last in (("a", "c", -3), ("a", "c", 3)):
            names, joinings = ["d", "a", "c", "b"], [("d", "b", 1), ("c", "a", 3), last]
            classes(names, joinings)
            numbers_of(names, joinings, 0)
            try:
                apart(names, joinings, 0, "a", "b")
            except Clash:
                pass
            self.assertEqual(names, ["d", "a", "c", "b"])
            self.assertEqual(joinings, [("d", "b", 1), ("c", "a", 3), last])

    def test_the_order_of_names_does_not_matter(self):
        for names in itertools.permutations(self.NAMES):
            self.assertEqual(classes(names, self.JOININGS), classes(self.NAMES, self.JOININGS))
            self.assertEqual(numbers_of(names, self.JOININGS, 5), numbers_of(self.NAMES, self.JOININGS, 5))

    def test_told_classes_are_the_asker_s_own(self):
        told = classes(self.NAMES, self.JOININGS)
        self.assertEqual(len({id(group) for group in told}), len(told))
        told[0].append("x")
        told[1].clear()
        told.append(["y"])
        self.assertEqual(classes(self.NAMES, self.JOININGS), [["a", "c"], ["b", "d"]])

    def test_told_numbers_are_the_asker_s_own(self):
        wanted = ("numbers", [("a", 0), ("b", 0), ("c", -3), ("d", -1)])
        told = numbers_of(self.NAMES, self.JOININGS, 0)
        self.assertEqual(told, wanted)
        told[1].clear()
        self.assertEqual(numbers_of(self.NAMES, self.JOININGS, 0), wanted)
        self.assertEqual(apart(self.NAMES, self.JOININGS, 0, "d", "b"), 1)

    def test_told_things_do_not_follow_what_was_handed_in(self):
        names, joinings = list(self.NAMES), list(self.JOININGS)
        groups, numbers = classes(names, joinings), numbers_of(names, joinings, 0)
        names.clear()
        joinings.clear()
        self.assertEqual(groups, [["a", "c"], ["b", "d"]])
        self.assertEqual(numbers[1], [("a", 0), ("b", 0), ("c", -3), ("d", -1)])

    def test_a_list_of_names_is_not_told_itself(self):
        names = ["a"]
        told = classes(names, [])
        told[0].append("b")
        self.assertEqual(names, ["a"])

    def test_the_same_question_is_told_the_same(self):
        for joinings in (self.JOININGS, self.WRONG):
            first = numbers_of(self.NAMES, joinings, 0)
            self.assertEqual(numbers_of(list(self.NAMES), list(joinings), 0), first)

    def test_what_was_told_may_be_handed_in_again(self):
        told = classes(self.NAMES, self.JOININGS)
        self.assertEqual(classes(told[0], [self.JOININGS[0]]), [["a", "c"]])
        word, name, ring = numbers_of(self.NAMES, self.WRONG, 0)
        self.assertEqual(led(self.WRONG, name, ring), name)

    def test_kinds_are_plain(self):
        for group in classes(self.NAMES, self.JOININGS):
            self.assertIs(group.__class__, list)
        word, rows = numbers_of(self.NAMES, self.JOININGS, 2)
        self.assertIs(rows.__class__, list)
        for name, number in rows:
            self.assertIs(number.__class__, int)
        self.assertIs(apart(self.NAMES, self.JOININGS, 2, "a", "a").__class__, int)


if __name__ == "__main__":
    unittest.main()
