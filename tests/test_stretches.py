import random
import unittest

from helper import (
    FAR, FORTY, TURNS, check_stretches, check_told_is_own, joinings_that_come_out, joinings_then, plain_classes,
    some_rows,
)
from joinback.plain import apart, numbers_of
from joinback.plaincheck import shows_parted, shows_ring
from joinback.stretches import answers_at, clash_times, standing_at

LATE = 10 ** 9


def joinings_of(rows):
    return [row[:3] for row in rows]


class StandingAt(unittest.TestCase):
    ROWS = [("a", "b", 1, 3, 5), ("b", "c", 0, 0, 3), ("a", "b", 1, 3, 5), ("b", "a", -1, 5, 9), ("c", "c", 0, 4, 5),
            ("a", "c", 7, 2, 8)]

    def test_from_begin_to_below_end(self):
        wanted = {0: [1], 1: [1], 2: [1, 5], 3: [0, 2, 5], 4: [0, 2, 4, 5], 5: [3, 5], 7: [3, 5], 8: [3], 9: [], 10: []}
        for time, numbers in wanted.items():
            self.assertEqual(standing_at(self.ROWS, time), numbers)

    def test_before_all_rows_and_behind_them(self):
        rows = [("a", "b", 0, 7, 8), ("a", "b", 0, 5, LATE)]
        self.assertEqual([standing_at(rows, time) for time in (0, 4)], [[], []])
        self.assertEqual([standing_at(rows, time) for time in (LATE - 1, LATE)], [[1], []])

    def test_no_rows(self):
        self.assertEqual((standing_at([], 0), standing_at((), 5)), ([], []))

    def test_chance_rows(self):
        chance = random.Random(1)
        for again in range(50):
            rows = some_rows(chance, ["a", "b"], 10, 20)
            for time in range(26):
                wanted = [n for n, row in enumerate(rows) if row[3] <= time and not row[4] <= time]
                self.assertEqual(standing_at(tuple(rows), time), wanted)


class AnswersCase(unittest.TestCase):
    def check_answer(self, names, turn, rows, ask, told):
        """An answer is what numbers_of and apart tell of those that stand, and bears its own proof."""
        one, other, time = ask
        joinings = joinings_then(rows, time)
        self.assertIs(told.__class__, tuple)
        if numbers_of(names, joinings, turn)[0] == "ring":
            word, name, ring = told
            self.assertEqual(word, "clash")
            self.assertTrue(shows_ring(names, joinings_of(rows), turn, name, ring), told)
            self.assertLessEqual({number for number, side in ring}, set(standing_at(rows, time)))
        elif apart(names, joinings, turn, one, other) is None:
            word, some = told
            self.assertEqual((word, some.__class__), ("apart", list))
            self.assertTrue(shows_parted(names, joinings, one, other, some), told)
        else:
            self.assertEqual(told, ("steps", apart(names, joinings, turn, one, other)))
        return told[0]

    def check_answers(self, names, turn, rows, asks):
        told = answers_at(names, turn, rows, asks)
        self.assertEqual(len(told), len(asks))
        return [self.check_answer(names, turn, rows, ask, answer) for ask, answer in zip(asks, told)]


class AnswersAt(AnswersCase):
    NAMES = ["c", "b", "a", "d"]
    ROWS = [("a", "b", 5, 2, 6), ("c", "b", 1, 4, 9), ("a", "c", 3, 5, 7), ("d", "d", 0, 0, 3)]

    def answer(self, one, other, time, turn=0):
        return answers_at(self.NAMES, turn, self.ROWS, [(one, other, time)])[0]

    def test_steps(self):
        self.assertEqual(self.answer("a", "b", 2), ("steps", 5))
        self.assertEqual(self.answer("a", "c", 4), ("steps", 4))
        self.assertEqual(self.answer("c", "a", 4), ("steps", -4))
        self.assertEqual(self.answer("c", "a", 4, 3), ("steps", 2))
        self.assertEqual(self.answer("a", "b", 7), ("apart", ["a"]))
        for time in (0, 3, LATE):
            self.assertEqual(self.answer("d", "d", time), ("steps", 0))

    def test_apart(self):
        for one, other, time in (("a", "b", 0), ("a", "b", 1), ("a", "d", 2), ("c", "a", 3), ("b", "a", LATE)):
            word, some = self.answer(one, other, time)
            self.assertEqual(word, "apart")
            self.assertTrue(shows_parted(self.NAMES, joinings_then(self.ROWS, time), one, other, some))

    def test_a_clash_anywhere_is_told_of_every_ask_at_that_time(self):
        asks = [("a", "b", 5), ("d", "a", 5), ("d", "d", 5), ("b", "c", 6), ("a", "b", 4)]
        told = answers_at(self.NAMES, 0, self.ROWS, asks)
        self.assertEqual([answer[0] for answer in told], ["clash", "clash", "clash", "steps", "steps"])
        for word, name, ring in told[:3]:
            self.assertEqual({number for number, side in ring}, {0, 1, 2})
            self.assertTrue(shows_ring(self.NAMES, joinings_of(self.ROWS), 0, name, ring))
        self.assertEqual(answers_at(self.NAMES, 1, self.ROWS, asks)[:3], [("steps", 0), ("apart", ["d"]), ("steps", 0)])

    def test_a_ring_is_by_the_rows_numbers(self):
        rows = [("a", "b", 0, 0, 1), ("a", "b", 0, 0, 9), ("b", "b", 0, 7, 8), ("b", "a", 1, 5, 6), ("a", "a", 1, 8, 9)]
        word, name, ring = answers_at(["a", "b"], 0, rows, [("a", "b", 5)])[0]
        self.assertEqual((word, sorted(number for number, side in ring)), ("clash", [1, 3]))
        self.assertTrue(shows_ring(["a", "b"], joinings_of(rows), 0, name, ring))
        self.assertEqual(answers_at(["a", "b"], 0, rows, [("b", "a", 8)])[0][:2], ("clash", "a"))

    def test_asks_in_any_order_and_one_ask_twice(self):
        asks = [("a", "c", 8), ("a", "c", 4), ("a", "c", 0), ("a", "c", 4), ("a", "c", 8), ("b", "a", 6)]
        told = answers_at(self.NAMES, 0, self.ROWS, asks)
        self.assertEqual(told[1], ("steps", 4))
        self.assertEqual((told[1], told[0]), (told[3], told[4]))
        self.assertEqual(told, [self.answer(*ask) for ask in asks])

    def test_rows_alike_and_turned_about(self):
        rows = [("a", "b", 2, 1, 4), ("b", "a", -2, 1, 4), ("a", "b", 2, 4, 6), ("b", "a", 2, 5, 7)]
        told = answers_at(["a", "b"], 0, rows, [("a", "b", time) for time in range(8)])
        self.assertEqual([answer[0] for answer in told],
                         ["apart", "steps", "steps", "steps", "steps", "clash", "steps", "apart"])
        self.assertEqual([told[4], told[6]], [("steps", 2), ("steps", -2)])

    def test_no_rows_no_names_no_asks(self):
        self.assertEqual(answers_at([], 0, [], []), [])
        self.assertEqual(answers_at(self.NAMES, 0, self.ROWS, []), [])
        self.assertEqual(answers_at(["a"], 0, [], [("a", "a", 0), ("a", "a", LATE)]), [("steps", 0)] * 2)
        self.assertEqual(answers_at(["b", "a"], 7, [], [("a", "b", 3)]), [("apart", ["a"])])

    def test_chance_rows(self):
        chance, words = random.Random(2), []
        for again in range(120):
            names = chance.sample(["a", "b", "c", "d", "e"], chance.randrange(1, 6))
            rows = some_rows(chance, names, chance.randrange(8), 12)
            asks = [(chance.choice(names), chance.choice(names), chance.randrange(17)) for ask in range(30)]
            words += self.check_answers(names, chance.choice(TURNS), rows, asks)
        for word in ("clash", "steps", "apart"):
            self.assertGreater(words.count(word), 300, word)

    def test_forty_names_a_hundred_and_forty_rows_and_sixty_asks(self):
        chance = random.Random(3)
        for turn in (0, 2, 1000):
            rows = []
            for joining in joinings_that_come_out(chance, FORTY, 140, turn):
                begin = chance.randrange(LATE)
                rows.append(joining + (begin, min(LATE, begin + chance.randrange(1, LATE // 5))))
            asks = [(chance.choice(FORTY), chance.choice(FORTY), chance.choice(rows)[3]) for ask in range(60)]
            self.check_answers(FORTY, turn, rows, asks)


class ClashTimes(unittest.TestCase):
    def check_times(self, names, turn, rows):
        told = clash_times(names, turn, rows)
        check_stretches(self, told, rows, lambda joinings: numbers_of(names, joinings, turn)[0] == "ring")
        return told

    def test_ordinary(self):
        rows = [("a", "b", 1, 2, 9), ("a", "b", 2, 0, 4), ("b", "a", -1, 3, 5), ("b", "a", 7, 8, 20)]
        self.assertEqual(clash_times(["a", "b"], 0, rows), [(2, 4), (8, 9)])
        self.assertEqual(clash_times(["a", "b"], 8, rows), [(2, 4)])
        self.assertEqual(clash_times(["a", "b"], 1, rows), [])

    def test_touching_ones_are_brought_together(self):
        rows = [("a", "a", 1, 3, 5), ("b", "b", 1, 5, 8), ("a", "a", 2, 8, 9), ("b", "b", 1, 10, 11)]
        self.assertEqual(clash_times(["a", "b"], 0, rows), [(3, 9), (10, 11)])
        self.assertEqual(clash_times(["a", "b"], 2, rows), [(3, 8), (10, 11)])

    def test_those_in_one_another(self):
        rows = [("a", "a", 1, 3, 9), ("b", "b", 1, 4, 5), ("a", "b", 0, 0, 30), ("a", "a", 1, 9, 10)]
        self.assertEqual(clash_times(["a", "b"], 0, rows), [(3, 10)])

    def test_at_the_first_and_the_last_time(self):
        self.assertEqual(clash_times(["a"], 0, [("a", "a", 1, 0, LATE)]), [(0, LATE)])
        self.assertEqual(clash_times(["a"], 0, [("a", "a", 1, LATE - 1, LATE)]), [(LATE - 1, LATE)])

    def test_none(self):
        self.assertEqual(clash_times([], 0, []), [])
        self.assertEqual(clash_times(["a"], 0, []), [])
        rows = [("a", "b", 1, 0, 5), ("a", "b", 2, 5, 9), ("b", "b", 0, 3, 6)]
        self.assertEqual(clash_times(["a", "b"], 0, rows), [])
        self.assertEqual(clash_times(["a", "b"], 0, [("a", "b", FAR, 0, 5), ("b", "a", -FAR, 0, 5)]), [])

    def test_chance_rows(self):
        chance, many = random.Random(4), 0
        for again in range(250):
            names = chance.sample(["a", "b", "c", "d"], chance.randrange(1, 5))
            rows = some_rows(chance, names, chance.randrange(9), 12)
            many += len(self.check_times(names, chance.choice(TURNS), rows))
        self.assertGreater(many, 100)

    def test_forty_names_and_a_hundred_and_forty_rows(self):
        chance = random.Random(5)
        rows = [joining + (at, at + chance.randrange(1, 40))
                for at, joining in enumerate(joinings_that_come_out(chance, FORTY, 140, 3))]
        self.assertEqual(plain_classes(FORTY, joinings_of(rows)), [FORTY])
        self.assertNotEqual(self.check_times(FORTY, 3, rows), [])


class HandedInAndTold(AnswersCase):
    NAMES, ROWS = AnswersAt.NAMES, AnswersAt.ROWS
    ASKS = [("a", "d", 2), ("a", "d", 2), ("a", "b", 5), ("d", "a", 0)]

    def test_tuples_do_for_lists(self):
        told = answers_at(self.NAMES, 0, self.ROWS, self.ASKS)
        self.assertEqual(answers_at(tuple(self.NAMES), 0, tuple(self.ROWS), tuple(self.ASKS)), told)
        self.assertEqual(standing_at(tuple(self.ROWS), 5), standing_at(self.ROWS, 5))
        self.assertEqual(clash_times(tuple(self.NAMES), 0, tuple(self.ROWS)), [(5, 6)])

    def test_what_is_handed_in_stays(self):
        names, rows, asks = list(self.NAMES), list(self.ROWS), list(self.ASKS)
        answers_at(names, 0, rows, asks)
        clash_times(names, 0, rows)
        standing_at(rows, 5)
        self.assertEqual((names, rows, asks), (self.NAMES, self.ROWS, self.ASKS))

    def test_told_things_are_the_asker_s_own(self):
        check_told_is_own(self, lambda: answers_at(self.NAMES, 0, self.ROWS, self.ASKS))
        check_told_is_own(self, lambda: clash_times(self.NAMES, 0, self.ROWS))
        check_told_is_own(self, lambda: standing_at(self.ROWS, 5))
        told = answers_at(self.NAMES, 0, self.ROWS, self.ASKS)
        told[0][1].append("x")
        self.assertNotIn("x", told[1][1])

    def test_what_was_told_does_not_follow_what_was_handed_in(self):
        names, rows, asks = ["b", "a"], [("a", "a", 0, 0, 3)], [("a", "b", 1)]
        told = answers_at(names, 0, rows, asks), standing_at(rows, 0)
        names.clear()
        rows.clear()
        asks.clear()
        self.assertEqual(told, ([("apart", ["a"])], [0]))


if __name__ == "__main__":
    unittest.main()
