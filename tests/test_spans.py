import itertools
import random
import unittest

from helper import (
    FORTY, are_together, check_stretches, check_told_is_own, joinings_then, plain_classes, some_rows, times_about,
)
from joinback.spans import class_counts, most_together, together_times

LATE = 10 ** 9


def forty_rows(chance):
    """A hundred and forty rows of forty names over all times."""
    rows = []
    for again in range(140):
        begin = chance.randrange(LATE)
        ends = chance.choice(FORTY), chance.choice(FORTY)
        rows.append(ends + (again, begin, min(LATE, begin + chance.randrange(1, LATE // 3))))
    return rows


class TogetherTimes(unittest.TestCase):
    def check_times(self, rows, one, other):
        told = together_times(rows, one, other)
        self.assertEqual(together_times(rows, other, one), told)
        check_stretches(self, told, rows, lambda joinings: are_together(joinings, one, other))
        return told

    def test_ordinary(self):
        rows = [("a", "b", 0, 2, 6), ("c", "b", 0, 4, 9), ("c", "a", 0, 8, 12)]
        self.assertEqual(together_times(rows, "a", "b"), [(2, 6), (8, 9)])
        self.assertEqual(together_times(rows, "a", "c"), [(4, 6), (8, 12)])
        self.assertEqual(together_times(rows, "c", "b"), [(4, 9)])

    def test_touching_ones_are_brought_together(self):
        rows = [("a", "b", 0, 2, 4), ("b", "a", 5, 4, 6), ("a", "c", 0, 6, 7), ("c", "b", 0, 6, 8)]
        rows.append(("a", "b", 0, 9, 10))
        self.assertEqual(together_times(rows, "a", "b"), [(2, 7), (9, 10)])

    def test_those_in_one_another_and_alike(self):
        rows = [("a", "b", 0, 2, 9), ("a", "b", 0, 3, 5), ("b", "a", 0, 2, 9), ("a", "b", 0, 2, 9)]
        self.assertEqual(together_times(rows, "b", "a"), [(2, 9)])

    def test_whatever_clashes(self):
        rows = [("a", "b", 0, 2, 9), ("a", "b", 1, 3, 5), ("a", "a", 1, 0, 20)]
        self.assertEqual(together_times(rows, "a", "b"), [(2, 9)])

    def test_a_name_and_itself(self):
        for rows in ([], [("a", "a", 1, 3, 4)], [("a", "b", 1, 3, 4)], ()):
            for name in ("a", "x"):
                self.assertEqual(together_times(rows, name, name), [(0, None)])

    def test_never(self):
        for rows in ([], (), [("a", "a", 0, 0, 5), ("b", "b", 0, 0, 5)], [("a", "c", 0, 0, 5), ("c", "b", 0, 5, 9)]):
            self.assertEqual(together_times(rows, "a", "b"), [])
            self.assertEqual(together_times(rows, "x", "y"), [])

    def test_the_first_and_the_last_time(self):
        self.assertEqual(together_times([("a", "b", 0, 0, LATE)], "a", "b"), [(0, LATE)])
        rows = [("a", "b", 0, 0, 1), ("a", "b", 0, LATE - 1, LATE)]
        self.assertEqual(together_times(rows, "a", "b"), [(0, 1), (LATE - 1, LATE)])

    def test_chance_rows(self):
        chance, names, many = random.Random(1), ["a", "b", "c", "d", "e"], 0
        for again in range(60):
            rows = some_rows(chance, names, chance.randrange(10), 12)
            for one, other in itertools.combinations(names, 2):
                many += len(self.check_times(rows, one, other))
        self.assertGreater(many, 200)

    def test_forty_names_and_a_hundred_and_forty_rows(self):
        rows = forty_rows(random.Random(2))
        pairs = [row[:2] for row in rows[:8] if row[0] != row[1]]
        for one, other in pairs:
            self.assertNotEqual(self.check_times(rows, one, other), [])


class Counts(unittest.TestCase):
    def check_counts(self, names, rows):
        """What is told at every begin and end, and beside them, is how many classes there are."""
        told = class_counts(names, rows)
        self.assertEqual(told[0][0], 0)
        self.assertEqual([time for time, many in told], sorted({time for time, many in told}))
        for (time, many), (later, other) in zip(told, told[1:]):
            self.assertNotEqual(many, other)
        best = (0, 0)
        for time in times_about(rows):
            groups = plain_classes(names, joinings_then(rows, time))
            self.assertEqual([many for begin, many in told if begin <= time][-1], len(groups), (rows, time))
            sizes = [len(group) for group in groups]
            best = max(best, (max(sizes + [0]), -time))
        self.assertLessEqual({time for time, many in told}, {0} | {time for row in rows for time in row[3:]})
        self.assertEqual(most_together(names, rows), (best[0], -best[1]))

    def test_counts(self):
        rows = [("a", "b", 0, 2, 6), ("b", "c", 5, 4, 9), ("a", "c", 1, 5, 6), ("b", "b", 1, 0, 20)]
        self.assertEqual(class_counts(["a", "b", "c", "d"], rows), [(0, 4), (2, 3), (4, 2), (6, 3), (9, 4)])

    def test_nought_is_first_even_where_something_changes_then(self):
        self.assertEqual(class_counts(["a", "b"], [("a", "b", 0, 0, 3)]), [(0, 1), (3, 2)])
        self.assertEqual(class_counts(["a", "b"], [("a", "b", 0, 1, 3)]), [(0, 2), (1, 1), (3, 2)])

    def test_only_times_at_which_the_number_becomes_another_one(self):
        rows = [("a", "b", 0, 0, 3), ("b", "c", 0, 3, 5), ("a", "c", 0, 5, 7), ("a", "c", 0, 6, 8)]
        self.assertEqual(class_counts(["a", "b", "c"], rows), [(0, 2), (8, 3)])

    def test_no_rows_no_names(self):
        self.assertEqual((class_counts([], []), class_counts((), ())), ([(0, 0)], [(0, 0)]))
        self.assertEqual(class_counts(["b", "a"], []), [(0, 2)])
        self.assertEqual((most_together([], []), most_together((), ())), ((0, 0), (0, 0)))
        self.assertEqual(most_together(["b", "a"], []), (1, 0))

    def test_most_together(self):
        rows = [("a", "b", 0, 2, 6), ("b", "c", 5, 4, 9), ("d", "c", 1, 7, 9), ("a", "c", 0, 9, 12)]
        self.assertEqual(most_together(["a", "b", "c", "d"], rows), (3, 4))
        self.assertEqual(most_together(["a", "b", "c", "d"], rows[:1]), (2, 2))
        self.assertEqual(most_together(["a", "b", "c", "d"], rows[3:] + rows[1:3]), (3, 7))
        self.assertEqual(most_together(["a", "b"], [("a", "a", 0, 3, 5)]), (1, 0))
        self.assertEqual(most_together(["a", "b"], [("a", "b", 0, 0, 5)]), (2, 0))
        self.assertEqual(most_together(["a", "b"], [("a", "b", 0, LATE - 1, LATE)]), (2, LATE - 1))

    def test_of_equal_numbers_the_first_time(self):
        rows = [("c", "d", 0, 6, 9), ("a", "b", 0, 3, 5), ("a", "b", 0, 8, 10)]
        self.assertEqual(most_together(["a", "b", "c", "d"], rows), (2, 3))

    def test_chance_rows(self):
        chance = random.Random(3)
        for again in range(200):
            names = chance.sample(["a", "b", "c", "d", "e", "f"], chance.randrange(1, 7))
            self.check_counts(names, some_rows(chance, names, chance.randrange(10), 12))

    def test_forty_names_and_a_hundred_and_forty_rows(self):
        self.check_counts(FORTY, forty_rows(random.Random(4)))


class HandedInAndTold(unittest.TestCase):
    NAMES, ROWS = ["c", "a", "b"], [("a", "b", 0, 2, 6), ("b", "c", 5, 4, 9)]

    def asks(self, names, rows):
        return [lambda: together_times(rows, "a", "c"), lambda: together_times(rows, "a", "a"),
                lambda: class_counts(names, rows), lambda: most_together(names, rows)]

    def test_tuples_do_for_lists(self):
        told = [ask() for ask in self.asks(self.NAMES, self.ROWS)]
        self.assertEqual([ask() for ask in self.asks(tuple(self.NAMES), tuple(self.ROWS))], told)
        self.assertEqual(told, [[(4, 6)], [(0, None)], [(0, 3), (2, 2), (4, 1), (6, 2), (9, 3)], (3, 4)])

    def test_what_is_handed_in_stays(self):
        names, rows = list(self.NAMES), list(self.ROWS)
        for ask in self.asks(names, rows):
            ask()
        self.assertEqual((names, rows), (self.NAMES, self.ROWS))

    def test_told_things_are_the_asker_s_own(self):
        for ask in self.asks(self.NAMES, self.ROWS):
            check_told_is_own(self, ask)


if __name__ == "__main__":
    unittest.main()
