import random
import unittest

from joinback.steps import counted, led, steps_of

FAR = 10 ** 12

JOININGS = [("a", "b", 3), ("c", "b", 5), ("c", "c", 7), ("c", "d", -2), ("a", "b", 3), ("b", "a", -3)]


class Counted(unittest.TestCase):
    def test_by_a_turn_of_nought_all_stay(self):
        for n in (-FAR, -7, -1, 0, 1, 7, FAR):
            self.assertEqual(counted(0, n), n)

    def test_by_a_turn_of_one_all_are_alike(self):
        for n in (-FAR, -7, -1, 0, 1, 7, FAR):
            self.assertEqual(counted(1, n), 0)

    def test_by_a_turn_of_two(self):
        for n in (-FAR, -8, -2, 0, 2, 8, FAR):
            self.assertEqual(counted(2, n), 0)
        for n in (-FAR - 1, -7, -1, 1, 7, FAR + 1):
            self.assertEqual(counted(2, n), 1)

    def test_by_a_turn_of_a_thousand(self):
        told = [(-FAR, 0), (-1001, 999), (-1000, 0), (-999, 1), (-1, 999), (0, 0), (1, 1)]
        told += [(999, 999), (1000, 0), (1001, 1), (FAR, 0), (FAR - 1, 999), (1 - FAR, 1)]
        for n, number in told:
            with self.subTest(n=n):
                self.assertEqual(counted(1000, n), number)

    def test_every_turn(self):
        for turn in range(1, 1001):
            for n in (-FAR, -turn - 1, -turn, -1, 0, 1, turn - 1, turn, turn + 1, FAR):
                number = counted(turn, n)
                self.assertTrue(0 <= number < turn)
                self.assertEqual((n - number) // turn * turn, n - number)


class Led(unittest.TestCase):
    def test_forth_and_back(self):
        self.assertEqual(led(JOININGS, "a", ((0, 1),)), "b")
        self.assertEqual(led(JOININGS, "b", ((0, -1),)), "a")
        self.assertEqual(led(JOININGS, "a", ((0, 1), (1, -1), (3, 1))), "d")
        self.assertEqual(led(JOININGS, "d", ((3, -1), (1, 1), (0, -1))), "a")

    def test_the_wrong_side(self):
        self.assertIsNone(led(JOININGS, "a", ((0, -1),)))
        self.assertIsNone(led(JOININGS, "b", ((0, 1),)))
        self.assertIsNone(led(JOININGS, "a", ((0, 1), (1, 1))))

    def test_the_empty_way_leads_nowhere_else(self):
        self.assertEqual(led(JOININGS, "a", ()), "a")
        self.assertEqual(led(JOININGS, "nowhere", ()), "nowhere")
        self.assertEqual(led([], "a", ()), "a")

    def test_a_name_of_no_joining(self):
        self.assertIsNone(led(JOININGS, "z", ((0, 1),)))

    def test_a_joining_of_a_name_with_itself(self):
        self.assertEqual(led(JOININGS, "c", ((2, 1),)), "c")
        self.assertEqual(led(JOININGS, "c", ((2, -1),)), "c")
        self.assertEqual(led(JOININGS, "c", ((2, 1), (2, -1), (2, 1), (3, 1))), "d")
        self.assertIsNone(led(JOININGS, "b", ((2, 1),)))

    def test_alike_joinings_and_turned_about_ones(self):
        self.assertEqual(led(JOININGS, "a", ((0, 1), (4, -1))), "a")
        self.assertEqual(led(JOININGS, "a", ((0, 1), (5, 1))), "a")
        self.assertEqual(led(JOININGS, "a", ((5, -1),)), "b")
        self.assertIsNone(led(JOININGS, "a", ((0, 1), (5, -1))))

    def test_a_joining_gone_twice(self):
        self.assertEqual(led(JOININGS, "a", ((0, 1), (0, -1), (0, 1))), "b")

    def test_a_number_below_nought_is_of_none(self):
        # Counted from the list's end each of these would lead on.
        self.assertIsNone(led(JOININGS, "b", ((-1, 1),)))
        self.assertIsNone(led(JOININGS, "a", ((-1, -1),)))
        self.assertIsNone(led(JOININGS, "a", ((-6, 1),)))
        self.assertIsNone(led(JOININGS, "a", ((0, 1), (-1, 1))))
        self.assertIsNone(led(JOININGS, "a", ((-FAR, 1),)))

    def test_a_number_beyond_the_end_is_of_none(self):
        self.assertIsNone(led(JOININGS, "a", ((6, 1),)))
        self.assertIsNone(led(JOININGS, "a", ((0, 1), (6, 1))))
        self.assertIsNone(led(JOININGS, "a", ((FAR, -1),)))
        self.assertIsNone(led([], "a", ((0, 1),)))
        self.assertEqual(led(JOININGS, "b", ((5, 1),)), "a")

    def test_a_break_is_not_mended_by_what_follows(self):
        self.assertIsNone(led(JOININGS, "a", ((3, 1), (0, 1))))
        self.assertIsNone(led(JOININGS, "a", ((9, 1), (0, 1))))
        self.assertIsNone(led(JOININGS, "a", ((0, 1), (3, 1), (1, -1))))

    def test_a_long_chain(self):
        names = [chr(97 + at // 20) + chr(97 + at % 20) for at in range(141)]
        chain = [(names[at], names[at + 1], at) for at in range(140)]
        forth = tuple([(at, 1) for at in range(140)])
        back = tuple([(at, -1) for at in range(139, -1, -1)])
        self.assertEqual(led(chain, names[0], forth), names[140])
        self.assertEqual(led(chain, names[140], back), names[0])
        self.assertEqual(led(chain, names[0], forth + back), names[0])
        self.assertIsNone(led(chain, names[0], back))


class StepsOf(unittest.TestCase):
    def test_forth_and_back(self):
        self.assertEqual(steps_of(JOININGS, 0, ((0, 1),)), 3)
        self.assertEqual(steps_of(JOININGS, 0, ((0, -1),)), -3)
        self.assertEqual(steps_of(JOININGS, 0, ((0, 1), (1, -1), (3, 1))), -4)
        self.assertEqual(steps_of(JOININGS, 0, ((3, -1), (1, 1), (0, -1))), 4)

    def test_they_are_told_counted(self):
        way = ((0, 1), (1, -1), (3, 1))
        told = [(0, -4), (1, 0), (2, 0), (3, 2), (4, 0), (5, 1), (1000, 996)]
        for turn, steps in told:
            with self.subTest(turn=turn):
                self.assertEqual(steps_of(JOININGS, turn, way), steps)

    def test_the_empty_way(self):
        for turn in (0, 1, 2, 1000):
            self.assertEqual(steps_of(JOININGS, turn, ()), 0)
            self.assertEqual(steps_of([], turn, ()), 0)

    def test_a_joining_gone_twice_counts_twice(self):
        self.assertEqual(steps_of(JOININGS, 0, ((2, 1), (2, 1))), 14)
        self.assertEqual(steps_of(JOININGS, 0, ((2, 1), (2, -1))), 0)

    def test_far_steps(self):
        chain = [("a", "a", FAR)] * 70 + [("a", "a", -FAR)] * 70
        self.assertEqual(steps_of(chain, 0, tuple([(at, 1) for at in range(70)])), 70 * FAR)
        self.assertEqual(steps_of(chain, 0, tuple([(at, 1) for at in range(140)])), 0)
        mixed = tuple([(at, 1 if at < 70 else -1) for at in range(140)])
        self.assertEqual(steps_of(chain, 0, mixed), 140 * FAR)
        self.assertEqual(steps_of([("a", "b", -FAR)], 999, ((0, 1),)), -FAR - 999 * (-FAR // 999))

    def test_a_way_and_the_same_gone_back(self):
        chance = random.Random(4)
        for turn in (0, 1, 2, 7, 1000):
            way = tuple([(chance.randrange(6), chance.choice((1, -1))) for again in range(30)])
            back = tuple([(number, -side) for number, side in reversed(way)])
            there, home = steps_of(JOININGS, turn, way), steps_of(JOININGS, turn, back)
            self.assertEqual(counted(turn, there + home), 0)


class HandedIn(unittest.TestCase):
    def test_tuples_do_for_lists(self):
        way = ((0, 1), (1, -1))
        self.assertEqual(led(tuple(JOININGS), "a", way), "c")
        self.assertEqual(steps_of(tuple(JOININGS), 0, way), -2)
        self.assertIsNone(led(tuple(JOININGS), "b", ((-1, 1),)))

    def test_what_is_handed_in_stays(self):
        joinings = [("c", "b", 5), ("a", "b", 3)]
        led(joinings, "a", ((1, 1), (0, -1)))
        led(joinings, "a", ((1, 1), (2, -1)))
        steps_of(joinings, 5, ((1, 1), (0, -1)))
        self.assertEqual(joinings, [("c", "b", 5), ("a", "b", 3)])

    def test_a_later_change_is_seen_in_later_answers_alone(self):
        joinings = [("a", "b", 1)]
        first = (led(joinings, "a", ((0, 1),)), steps_of(joinings, 0, ((0, 1),)))
        joinings[0] = ("a", "c", 9)
        self.assertEqual(first, ("b", 1))
        self.assertEqual(led(joinings, "a", ((0, 1),)), "c")
        self.assertEqual(steps_of(joinings, 0, ((0, 1),)), 9)


if __name__ == "__main__":
    unittest.main()
