import itertools
import random
import unittest

from helper import (
    FAR, FORTY, TURNS, chance_deed, check_told_is_own, joinings_that_come_out, long_row_among, mesh_face, plain_classes,
    spoil_lists, told_or_refused,
)
from joinback.eldest import eldest, eldest_way
from joinback.errors import BadName, NoJoin, NoName
from joinback.fewest import fewest_way
from joinback.mesh import Mesh
from joinback.plain import apart, classes
from joinback.steps import counted

WRONG_NAMES = ("x", "aa", "", "A", "a ", "abcdefghi")


def renumbered(numbers, way):
    return None if way is None else tuple((numbers[place], side) for place, side in way)


def without_steps(rows):
    return [(one, other) for n, one, other, step in rows]


class MeshCase(unittest.TestCase):
    def check_answers(self, mesh, turn, pairs):
        """Everything is as going through all joinings that stand tells it."""
        names, rows = mesh.names_now(), mesh.standing()
        numbers, joinings = [row[0] for row in rows], [row[1:] for row in rows]
        self.assertEqual(names, sorted(set(names)))
        self.assertEqual(numbers, sorted(set(numbers)))
        groups = plain_classes(names, joinings)
        self.assertEqual(mesh.all_classes(), groups)
        self.assertEqual([mesh.class_of(name) for group in groups for name in group],
                         [group for group in groups for name in group])
        self.assertEqual(mesh.holding(), [numbers[place] for place in eldest(names, joinings)])
        for one, other in pairs:
            steps = apart(names, joinings, turn, one, other)
            self.assertEqual(mesh.steps(one, other), steps)
            self.assertIs(mesh.together(one, other), steps is not None)
            self.assertEqual(mesh.way(one, other), renumbered(numbers, eldest_way(joinings, one, other)))
            self.assertEqual(mesh.few_way(one, other), renumbered(numbers, fewest_way(joinings, one, other)))

    def check_join(self, mesh, turn, one, other, step, upcoming):
        """A join tells what the plain answers do, and changes just that."""
        names, rows, moment = mesh.names_now(), mesh.standing(), mesh.moment()
        known = apart(names, [row[1:] for row in rows], turn, one, other)
        way = mesh.way(one, other)
        told = mesh.join(one, other, step)
        if known is not None and known != counted(turn, step):
            self.assertEqual(told, ("clash", way))
            self.assertEqual((mesh.standing(), mesh.moment()), (rows, moment))
        else:
            self.assertEqual(told, ("joined" if known is None else "known", upcoming))
            self.assertEqual(mesh.standing(), rows + [(upcoming, one, other, step)])
            self.assertEqual(mesh.moment(), moment + 1)
        return told[0]

    def check_take(self, mesh, n):
        """What is told of a take is what those that hold, and the classes, are ahead of it and behind it."""
        names, rows, held, groups = mesh.names_now(), mesh.standing(), mesh.holding(), mesh.all_classes()
        told = mesh.take(n)
        self.assertEqual(mesh.standing(), [row for row in rows if row[0] != n])
        if n not in held:
            self.assertEqual(told, ("spare",))
            self.assertEqual(mesh.holding(), held)
        elif mesh.all_classes() == groups:
            new = [number for number in mesh.holding() if number not in held]
            self.assertEqual(told, ("held", new[0]))
            self.assertEqual(mesh.holding(), sorted(set(held) - {n} | set(new)))
        else:
            one, other = [row[1:3] for row in rows if row[0] == n][0]
            self.assertEqual(told, ("parted", mesh.class_of(one), mesh.class_of(other)))
            self.assertIn(sorted(told[1] + told[2]), groups)
        self.assertEqual(mesh.names_now(), names)
        return told[0]


class Made(MeshCase):
    def bad_place(self, names):
        with self.assertRaises(BadName) as told:
            Mesh(names, 0)
        return told.exception.place

    def test_names_are_refused_at_the_first_wrong_place(self):
        self.assertEqual(self.bad_place(["a", "b", "a"]), 2)
        self.assertEqual(self.bad_place(["a", "a", "B"]), 1)
        self.assertEqual(self.bad_place(["a", "B", "a"]), 1)
        self.assertEqual(self.bad_place(("", "a")), 0)
        for thing in (None, 7, True, ["a"], ("a",), "a b", "abcdefghi", ""):
            self.assertEqual(self.bad_place(["a", thing, "a"]), 1)

    def test_no_names_at_all(self):
        for names in ([], ()):
            mesh = Mesh(names, 0)
            self.assertEqual((mesh.names_now(), mesh.standing(), mesh.holding(), mesh.all_classes()), ([], [], [], []))
            mesh.put_name("k")
            self.assertEqual(mesh.all_classes(), [["k"]])

    def test_names_rise(self):
        mesh = Mesh(["b", "ab", "c", "a"], 0)
        self.assertEqual(mesh.names_now(), ["a", "ab", "b", "c"])
        mesh.put_name("aa")
        self.assertEqual(mesh.names_now(), ["a", "aa", "ab", "b", "c"])


class Join(MeshCase):
    def test_joined_known_and_clash(self):
        mesh = Mesh(["a", "b", "c"], 0)
        self.assertEqual(mesh.join("a", "b", 3), ("joined", 0))
        self.assertEqual(mesh.join("c", "b", 5), ("joined", 1))
        self.assertEqual(mesh.join("a", "c", -2), ("known", 2))
        self.assertEqual(mesh.join("a", "c", 2), ("clash", ((0, 1), (1, -1))))
        self.assertEqual(mesh.join("c", "a", 3), ("clash", ((1, 1), (0, -1))))
        self.assertEqual(mesh.join("b", "a", -3), ("known", 3))
        rows = [(0, "a", "b", 3), (1, "c", "b", 5), (2, "a", "c", -2), (3, "b", "a", -3)]
        self.assertEqual(mesh.standing(), rows)
        self.assertEqual(mesh.holding(), [0, 1])

    def test_steps_are_counted_but_stand_as_they_were_handed_in(self):
        for turn in TURNS:
            mesh = Mesh(["a", "b"], turn)
            self.assertEqual(mesh.join("a", "b", -FAR), ("joined", 0))
            self.assertEqual(mesh.join("b", "a", FAR + 2 * turn), ("known", 1))
            self.assertEqual(mesh.standing(), [(0, "a", "b", -FAR), (1, "b", "a", FAR + 2 * turn)])
            self.assertEqual(mesh.steps("a", "b"), counted(turn, -FAR))
            told = mesh.join("b", "a", FAR - 1)
            self.assertEqual(told, ("known", 2) if turn == 1 else ("clash", ((0, -1),)))

    def test_a_name_with_itself(self):
        for turn in TURNS:
            mesh = Mesh(["a", "b"], turn)
            mesh.join("a", "b", 1)
            self.assertEqual(mesh.join("a", "a", 0), ("known", 1))
            self.assertEqual(mesh.join("b", "b", -3 * turn), ("known", 2))
            self.assertEqual(mesh.join("a", "a", 1), ("known", 3) if turn == 1 else ("clash", ()))

    def test_a_clash_tells_the_eldest_way_by_own_numbers(self):
        mesh = Mesh(["a", "b", "c"], 0)
        mesh.join("a", "c", 0)
        mesh.join("b", "b", 0)
        mesh.join("a", "b", 0)
        mesh.join("b", "c", 0)
        mesh.take(0)
        mesh.join("c", "a", 0)
        self.assertEqual(mesh.join("a", "c", 1), ("clash", ((2, 1), (3, 1))))
        self.assertEqual(mesh.few_way("a", "c"), ((4, -1),))

    def test_numbers_are_never_given_twice(self):
        mesh = Mesh(["a", "b", "c"], 0)
        mesh.join("a", "b", 0)
        mesh.join("a", "b", 0)
        mesh.take(1)
        self.assertEqual(mesh.join("a", "b", 0), ("known", 2))
        self.assertEqual(mesh.join("a", "b", 1), ("clash", ((0, 1),)))
        mesh.drop_name("a")
        self.assertEqual(mesh.standing(), [])
        self.assertEqual(mesh.join("c", "b", 0), ("joined", 3))
        mesh.put_name("a")
        self.assertEqual(mesh.join("a", "b", 0), ("joined", 4))

    def test_names_that_are_not_there(self):
        mesh = Mesh(["a", "b", "x"], 0)
        mesh.join("a", "b", 1)
        mesh.join("x", "b", 1)
        mesh.drop_name("x")
        before = mesh_face(mesh, ["a", "b", "x"])
        for wrong in WRONG_NAMES:
            asks = [(mesh.join, "a", wrong, 1), (mesh.join, wrong, "a", 1), (mesh.join, wrong, wrong, 0)]
            asks += [(mesh.drop_name, wrong), (mesh.class_of, wrong)]
            for ask in (mesh.together, mesh.steps, mesh.way, mesh.few_way):
                asks += [(ask, "a", wrong), (ask, wrong, "b"), (ask, wrong, wrong)]
            for ask, *things in asks:
                with self.assertRaises(NoName):
                    ask(*things)
        self.assertEqual(mesh_face(mesh, ["a", "b", "x"]), before)


class Take(MeshCase):
    def ring(self):
        """A ring of a, b, c, and d that hangs at c."""
        mesh = Mesh(["d", "c", "b", "a"], 0)
        for one, other in (("b", "a"), ("b", "c"), ("c", "a"), ("d", "c")):
            mesh.join(one, other, 0)
        return mesh

    def test_one_that_does_not_hold(self):
        mesh = self.ring()
        self.assertEqual(mesh.holding(), [0, 1, 3])
        self.assertEqual(mesh.take(2), ("spare",))
        self.assertEqual(mesh.holding(), [0, 1, 3])
        self.assertEqual([row[0] for row in mesh.standing()], [0, 1, 3])

    def test_one_with_itself_never_holds(self):
        mesh = Mesh(["a"], 0)
        mesh.join("a", "a", 0)
        self.assertEqual(mesh.holding(), [])
        self.assertEqual(mesh.take(0), ("spare",))

    def test_one_in_whose_place_another_one_holds(self):
        mesh = self.ring()
        self.assertEqual(mesh.take(1), ("held", 2))
        self.assertEqual(mesh.holding(), [0, 2, 3])
        mesh.join("d", "a", 0)
        mesh.join("d", "b", 0)
        self.assertEqual(mesh.take(3), ("held", 4))
        self.assertEqual(mesh.holding(), [0, 2, 4])

    def test_one_that_parts(self):
        mesh = self.ring()
        self.assertEqual(mesh.take(3), ("parted", ["d"], ["a", "b", "c"]))
        self.assertEqual(mesh.take(0), ("held", 2))
        self.assertEqual(mesh.take(1), ("parted", ["b"], ["a", "c"]))
        self.assertEqual(mesh.take(2), ("parted", ["c"], ["a"]))
        self.assertEqual(mesh.all_classes(), [["a"], ["b"], ["c"], ["d"]])

    def test_the_class_of_its_one_is_first(self):
        for one, other in (("a", "b"), ("b", "a")):
            mesh = Mesh(["a", "b", "c"], 0)
            mesh.join(one, other, 0)
            mesh.join("c", "b", 0)
            wanted = {"a": ["a"], "b": ["b", "c"]}
            self.assertEqual(mesh.take(0), ("parted", wanted[one], wanted[other]))

    def test_numbers_that_do_not_stand(self):
        mesh = self.ring()
        mesh.take(2)
        mesh.drop_name("d")
        before = mesh_face(mesh, ["a", "b", "c", "d"])
        for n in (2, 3, 4, 5, -1, -2, FAR, -FAR):
            with self.assertRaises(NoJoin):
                mesh.take(n)
        self.assertEqual(mesh_face(mesh, ["a", "b", "c", "d"]), before)
        self.assertEqual(told_or_refused(Mesh([], 0).take, 0), "NoJoin")

    def test_numbers_stay_with_their_joinings(self):
        mesh = self.ring()
        mesh.take(0)
        self.assertEqual(mesh.standing(), [(1, "b", "c", 0), (2, "c", "a", 0), (3, "d", "c", 0)])
        self.assertEqual(mesh.way("d", "b"), ((3, 1), (1, -1)))
        self.assertEqual(mesh.take(3), ("parted", ["d"], ["a", "b", "c"]))


class PutAndDrop(MeshCase):
    def test_put_name_tells_nothing(self):
        mesh = Mesh(["a"], 0)
        self.assertIsNone(mesh.put_name("b"))
        self.assertEqual(mesh.all_classes(), [["a"], ["b"]])

    def test_what_is_no_name_or_is_there(self):
        mesh = Mesh(["b", "a"], 0)
        mesh.put_name("abcdefgh")
        for thing in ("a", "b", "abcdefgh", "", "A", "a b", "abcdefghi", "a1", None, 3, True, ["c"], ("c",)):
            with self.assertRaises(BadName) as told:
                mesh.put_name(thing)
            self.assertEqual(told.exception.place, 0)
        self.assertEqual((mesh.names_now(), mesh.moment()), (["a", "abcdefgh", "b"], 1))

    def test_drop_name_takes_its_joinings(self):
        mesh = Mesh(["a", "b", "c"], 0)
        for one, other in (("a", "b"), ("b", "c"), ("c", "c"), ("c", "a"), ("a", "a")):
            mesh.join(one, other, 0)
        self.assertEqual(mesh.drop_name("a"), [0, 3, 4])
        self.assertEqual(mesh.names_now(), ["b", "c"])
        self.assertEqual(without_steps(mesh.standing()), [("b", "c"), ("c", "c")])
        self.assertEqual(mesh.drop_name("c"), [1, 2])
        self.assertEqual(mesh.drop_name("b"), [])
        self.assertEqual((mesh.names_now(), mesh.standing()), ([], []))
        with self.assertRaises(NoName):
            mesh.drop_name("b")

    def test_one_of_itself_is_told_once(self):
        mesh = Mesh(["a"], 0)
        mesh.join("a", "a", 0)
        self.assertEqual(mesh.drop_name("a"), [0])

    def test_put_again_it_comes_without_its_joinings(self):
        mesh = Mesh(["a", "b"], 0)
        mesh.join("a", "b", 7)
        mesh.drop_name("b")
        self.assertIsNone(mesh.put_name("b"))
        self.assertEqual(mesh.all_classes(), [["a"], ["b"]])
        self.assertEqual(mesh.join("a", "b", 8), ("joined", 1))
        self.assertEqual(mesh.steps("b", "a"), -8)


class Ways(MeshCase):
    def test_ways_by_own_numbers(self):
        mesh = Mesh(["a", "b", "c", "d"], 0)
        for one, other in (("a", "b"), ("b", "c"), ("c", "d"), ("d", "a"), ("d", "a")):
            mesh.join(one, other, 0)
        self.assertEqual(mesh.way("a", "d"), ((0, 1), (1, 1), (2, 1)))
        self.assertEqual(mesh.few_way("a", "d"), ((3, -1),))
        self.assertEqual((mesh.way("b", "b"), mesh.few_way("b", "b")), ((), ()))
        mesh.take(0)
        self.assertEqual(mesh.way("a", "c"), ((3, -1), (2, -1)))
        self.assertEqual(mesh.few_way("a", "b"), ((3, -1), (2, -1), (1, -1)))
        mesh.take(3)
        self.assertEqual(mesh.few_way("a", "d"), ((4, -1),))
        mesh.take(4)
        self.assertEqual((mesh.way("a", "d"), mesh.few_way("d", "a"), mesh.steps("a", "d")), (None, None, None))
        self.assertIs(mesh.together("a", "d"), False)

    def test_forty_names_and_a_hundred_and_forty_joinings(self):
        chance = random.Random(1)
        for turn in (0, 5):
            mesh = Mesh(FORTY, turn)
            hidden = {name: chance.randrange(-FAR, FAR) // 2 for name in FORTY}
            for at, (one, other, step) in enumerate(long_row_among(chance, 140)):
                told = mesh.join(one, other, hidden[other] - hidden[one])
                self.assertEqual((told[0] in ("joined", "known"), told[1]), (True, at))
            pairs = [chance.choices(FORTY, k=2) for again in range(30)] + [(FORTY[0], FORTY[39])]
            self.check_answers(mesh, turn, pairs)
            for n in chance.sample(range(140), 40):
                self.check_take(mesh, n)
            self.check_answers(mesh, turn, pairs)


class SetAgainstThePlainAnswers(MeshCase):
    POOL = ["a", "ab", "b", "c", "d"]

    def go(self, chance, turn, many):
        mesh, upcoming, words = Mesh(self.POOL[:3], turn), 0, []
        for again in range(many):
            word, *things = chance_deed(chance, mesh, self.POOL)
            names = mesh.names_now()
            if word == "join" and set(things[:2]) <= set(names):
                words.append(self.check_join(mesh, turn, *things, upcoming))
                upcoming += words[-1] in ("joined", "known")
            elif word == "take" and things[0] in [row[0] for row in mesh.standing()]:
                words.append(self.check_take(mesh, *things))
            else:
                words.append(self.check_name_deed(mesh, word, *things))
            self.check_answers(mesh, turn, itertools.product(mesh.names_now(), repeat=2))
        return words

    def check_name_deed(self, mesh, word, *things):
        """Putting and dropping names, and all deeds that are refused."""
        names, rows, moment = mesh.names_now(), mesh.standing(), mesh.moment()
        refusals = {"take": "NoJoin", "put_name": "BadName", "drop_name": "NoName", "join": "NoName"}
        told = told_or_refused(getattr(mesh, word), *things)
        if word == "put_name" and things[0] not in names:
            self.assertIsNone(told)
            self.assertEqual((mesh.names_now(), mesh.standing()), (sorted(names + list(things)), rows))
        elif word == "drop_name" and things[0] in names:
            numbers = [row[0] for row in rows if things[0] in row[1:3]]
            self.assertEqual(told, numbers)
            self.assertEqual(mesh.names_now(), [name for name in names if name != things[0]])
            self.assertEqual(mesh.standing(), [row for row in rows if row[0] not in numbers])
        else:
            self.assertEqual(told, refusals[word])
            self.assertEqual((mesh.names_now(), mesh.standing(), mesh.moment()), (names, rows, moment))
            return told
        self.assertEqual(mesh.moment(), moment + 1)
        return word

    def test_chance_deeds(self):
        chance, words = random.Random(2), []
        for again in range(60):
            words += self.go(chance, chance.choice(TURNS), 40)
        wanted = ["joined", "known", "clash", "spare", "held", "parted", "put_name", "drop_name"]
        for word in wanted + ["NoJoin", "BadName", "NoName"]:
            self.assertGreater(words.count(word), 20, word)

    def test_three_hundred_deeds(self):
        chance = random.Random(3)
        mesh = Mesh(FORTY[:12], 3)
        joinings = joinings_that_come_out(chance, FORTY[:12], 2000, 3)
        while mesh.moment() < 300:
            mesh.join(*joinings.pop())
            if chance.random() < 0.4 and mesh.standing():
                self.check_take(mesh, chance.choice(mesh.standing())[0])
        self.check_answers(mesh, 3, itertools.product(FORTY[:4], FORTY[:12]))
        self.assertEqual(classes(FORTY[:12], [row[1:] for row in mesh.standing()]), mesh.all_classes())

    def test_what_is_taken_is_as_if_it_had_never_been(self):
        chance = random.Random(4)
        names = ["a", "b", "c", "d"]
        for again in range(60):
            mesh, other = Mesh(names, 5), Mesh(names, 5)
            for joining in joinings_that_come_out(chance, names, 12, 5):
                mesh.join(*joining)
            for n in [row[0] for row in mesh.standing()]:
                if chance.random() < 0.5:
                    mesh.take(n)
            for n, *joining in mesh.standing():
                other.join(*joining)
            numbers = [row[0] for row in mesh.standing()]
            self.assertEqual(mesh.all_classes(), other.all_classes())
            self.assertEqual(mesh.holding(), [numbers[n] for n in other.holding()])
            for one, end in itertools.product(names, repeat=2):
                self.assertEqual(mesh.steps(one, end), other.steps(one, end))
                self.assertEqual(mesh.way(one, end), renumbered(numbers, other.way(one, end)))
                self.assertEqual(mesh.few_way(one, end), renumbered(numbers, other.few_way(one, end)))


class HandedInAndTold(MeshCase):
    def small(self):
        mesh = Mesh(["c", "a", "b"], 0)
        mesh.join("a", "b", 1)
        mesh.join("b", "c", 1)
        mesh.join("c", "a", -2)
        mesh.take(0)
        return mesh

    def asks(self, mesh):
        return [mesh.names_now, mesh.standing, mesh.holding, mesh.all_classes, lambda: mesh.class_of("b"),
                lambda: mesh.way("a", "b"), lambda: mesh.few_way("a", "b"), lambda: mesh.steps("a", "b"),
                lambda: mesh.together("a", "b"), mesh.moment, lambda: mesh.times_together("a", "b"),
                lambda: mesh.eldest_time("a", "b"), lambda: mesh.between(0, 4), lambda: mesh.between(4, 1),
                lambda: mesh.join("a", "b", 5)]

    def test_what_is_handed_in_stays_and_later_changes_are_not_seen(self):
        names = ["c", "a", "b"]
        mesh = Mesh(names, 0)
        mesh.put_name("d")
        mesh.drop_name("a")
        self.assertEqual(names, ["c", "a", "b"])
        names.append("e")
        self.assertEqual(mesh.names_now(), ["b", "c", "d"])
        self.assertEqual(mesh.at(0).names_now(), ["a", "b", "c"])

    def test_tuples_do_for_lists(self):
        mesh = Mesh(("a", "b"), 0)
        mesh.put_name("c")
        mesh.join("a", "c", 0)
        self.assertEqual(mesh.all_classes(), [["a", "c"], ["b"]])

    def test_told_things_are_the_asker_s_own(self):
        mesh = self.small()
        for ask in self.asks(mesh):
            check_told_is_own(self, ask)

    def test_told_classes_and_numbers_of_deeds_are_the_asker_s_own(self):
        mesh = self.small()
        before = mesh_face(mesh.copy(), ["a", "b", "c"])
        copy = mesh.copy()
        spoil_lists(copy.take(1))
        spoil_lists(copy.drop_name("c"))
        self.assertEqual((copy.names_now(), copy.standing()), (["a", "b"], []))
        self.assertEqual(copy.at(5).all_classes(), [["a", "c"], ["b"]])
        self.assertEqual(mesh_face(mesh, ["a", "b", "c"]), before)

    def test_nothing_done_later_changes_what_was_told(self):
        mesh = self.small()
        told = [ask() for ask in self.asks(mesh)]
        wanted = repr(told)
        mesh.put_name("d")
        mesh.join("d", "a", 3)
        mesh.take(1)
        mesh.drop_name("a")
        self.assertEqual(repr(told), wanted)

    def test_two_meshes_do_not_touch_one_another(self):
        names = ["c", "a", "b"]
        first, second = Mesh(names, 0), Mesh(names, 0)
        empty = mesh_face(second, names)
        first.join("a", "b", 1)
        first.drop_name("c")
        self.assertEqual(mesh_face(second, names), empty)
        self.assertEqual(second.join("b", "c", 3), ("joined", 0))
        self.assertEqual(first.standing(), [(0, "a", "b", 1)])

    def test_kinds_are_plain(self):
        mesh = self.small()
        for told in (mesh.standing()[0], mesh.way("a", "b"), mesh.way("a", "b")[0], mesh.few_way("a", "a"),
                     mesh.join("a", "b", 1), mesh.take(2), mesh.between(0, 1)[0]):
            self.assertIs(told.__class__, tuple)
        for told in (mesh.steps("a", "a"), mesh.moment(), mesh.standing()[0][0]):
            self.assertIs(told.__class__, int)


if __name__ == "__main__":
    unittest.main()
