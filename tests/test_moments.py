import itertools
import random
import unittest

from helper import (
    FAR, FORTY, TURNS, chance_deed, joinings_that_come_out, lists_in, mesh_face, number_that_comes_next, spoil_lists,
    told_or_refused,
)
from joinback.errors import NoMoment
from joinback.mesh import Mesh

POOL = ["a", "ab", "b", "c", "d"]


def stretches_plainly(marks):
    """The greatest stretches of moments with a mark, by asking of each pair whether it is one."""
    many = len(marks)
    return [
        (first, last)
        for first in range(many)
        for last in range(first, many)
        if all(marks[first:last + 1]) and not any(marks[max(0, first - 1):first] + marks[last + 1:last + 2])
    ]


def chance_mesh(chance, many):
    """A mesh to which chance deeds are done, and what it told at each moment on its way."""
    mesh = Mesh(POOL[:3], chance.choice(TURNS))
    faces, following = [mesh_face(mesh, POOL)], [number_that_comes_next(mesh)]
    for again in range(many):
        word, *things = chance_deed(chance, mesh, POOL)
        told_or_refused(getattr(mesh, word), *things)
        if mesh.moment() == len(faces):
            faces.append(mesh_face(mesh, POOL))
            following.append(number_that_comes_next(mesh))
    return mesh, faces, following


class Moments(unittest.TestCase):
    def test_each_deed_that_is_done_is_one(self):
        mesh = Mesh(["a", "b"], 0)
        self.assertEqual(mesh.moment(), 0)
        mesh.join("a", "b", 1)
        self.assertEqual(mesh.moment(), 1)
        mesh.join("a", "b", 1)
        self.assertEqual(mesh.moment(), 2)
        mesh.take(0)
        self.assertEqual(mesh.moment(), 3)
        mesh.put_name("c")
        self.assertEqual(mesh.moment(), 4)
        for other in ("a", "b", "c"):
            mesh.join("c", other, {"a": 0, "b": 1, "c": 0}[other])
        self.assertEqual(mesh.moment(), 7)
        mesh.drop_name("c")
        self.assertEqual(mesh.moment(), 8)

    def test_a_clash_a_refusal_and_an_ask_are_none(self):
        mesh = Mesh(["a", "b"], 0)
        mesh.join("a", "b", 1)
        self.assertEqual(mesh.join("a", "b", 2), ("clash", ((0, 1),)))
        self.assertEqual(mesh.join("a", "a", 2), ("clash", ()))
        for ask, things in ((mesh.join, ("a", "x", 0)), (mesh.take, (1,)), (mesh.put_name, ("a",)),
                            (mesh.put_name, ("",)), (mesh.drop_name, ("x",)), (mesh.at, (2,)), (mesh.between, (0, 2))):
            self.assertIsInstance(told_or_refused(ask, *things), str)
        mesh_face(mesh, ["a", "b", "x"])
        mesh.at(0).put_name("c")
        mesh.copy().drop_name("a")
        mesh.between(0, 1)
        self.assertEqual(mesh.moment(), 1)


class At(unittest.TestCase):
    def test_as_it_was_then(self):
        mesh = Mesh(["a", "b"], 4)
        mesh.join("a", "b", 6)
        mesh.put_name("c")
        mesh.join("c", "b", 1)
        mesh.drop_name("a")
        mesh.take(1)
        past = mesh.at(3)
        self.assertEqual(past.standing(), [(0, "a", "b", 6), (1, "c", "b", 1)])
        self.assertEqual((past.names_now(), past.moment(), past.steps("a", "c")), (["a", "b", "c"], 3, 1))
        self.assertEqual(mesh.at(0).standing(), [])
        self.assertEqual(mesh.at(1).all_classes(), [["a", "b"]])
        self.assertEqual(mesh.at(2).all_classes(), [["a", "b"], ["c"]])
        self.assertEqual(mesh.at(4).standing(), [(1, "c", "b", 1)])
        self.assertEqual(mesh.at(5).all_classes(), [["b"], ["c"]])

    def test_the_number_that_came_next(self):
        mesh = Mesh(["a", "b"], 0)
        for again in range(4):
            mesh.join("a", "b", 0)
        mesh.take(3)
        mesh.take(2)
        self.assertEqual([number_that_comes_next(mesh.at(then)) for then in range(7)], [0, 1, 2, 3, 4, 4, 4])

    def test_it_goes_on_apart_on_both_sides(self):
        mesh = Mesh(["a", "b", "c"], 0)
        mesh.join("a", "b", 1)
        mesh.join("b", "c", 1)
        past, later = mesh.at(1), mesh.at(2)
        before = mesh_face(mesh, ["a", "b", "c", "d"])
        self.assertEqual(past.join("a", "c", 5), ("joined", 1))
        past.put_name("d")
        past.drop_name("b")
        self.assertEqual(mesh_face(mesh, ["a", "b", "c", "d"]), before)
        self.assertEqual(past.moment(), 4)
        self.assertEqual(past.at(1).standing(), [(0, "a", "b", 1)])
        face = mesh_face(past, ["a", "b", "c", "d"])
        self.assertEqual(mesh.join("c", "a", -2), ("known", 2))
        mesh.drop_name("a")
        self.assertEqual(mesh_face(past, ["a", "b", "c", "d"]), face)
        self.assertEqual(mesh_face(later, ["a", "b", "c", "d"]), before)
        self.assertEqual(later.times_together("a", "c"), [(2, 2)])

    def test_its_moments_are_those_up_to_then(self):
        mesh = Mesh(["a"], 0)
        for again in range(5):
            mesh.join("a", "a", 0)
        past = mesh.at(3)
        self.assertEqual([past.at(then).moment() for then in range(4)], [0, 1, 2, 3])
        for then in (4, 5):
            with self.assertRaises(NoMoment):
                past.at(then)

    def test_what_is_no_moment(self):
        mesh = Mesh(["a"], 0)
        mesh.join("a", "a", 0)
        for then in (-1, -2, 2, 3, FAR, -FAR):
            with self.assertRaises(NoMoment):
                mesh.at(then)
        for then in (-1, 1):
            with self.assertRaises(NoMoment):
                Mesh([], 0).at(then)

    def test_copy_is_as_it_is_now(self):
        chance = random.Random(1)
        for again in range(10):
            mesh, faces, following = chance_mesh(chance, 15)
            copy = mesh.copy()
            self.assertEqual(mesh_face(copy, POOL), faces[-1])
            self.assertEqual(number_that_comes_next(copy), following[-1])
            copy.put_name("zz")
            copy.join("zz", "zz", 0)
            self.assertEqual(mesh_face(mesh, POOL), faces[-1])
            mesh.put_name("yy")
            self.assertNotIn("yy", copy.names_now())

    def test_every_moment_is_told_as_it_was_then(self):
        chance = random.Random(2)
        for again in range(25):
            mesh, faces, following = chance_mesh(chance, 25)
            for then, face in enumerate(faces):
                past = mesh.at(then)
                self.assertEqual(mesh_face(past, POOL), face)
                self.assertEqual(number_that_comes_next(past), following[then])
                self.assertEqual([mesh_face(past.at(first), POOL) for first in range(then)], faces[:then])
                for deed in range(4):
                    word, *things = chance_deed(chance, past, POOL)
                    told_or_refused(getattr(past, word), *things)
                self.assertEqual(mesh_face(past.at(then), POOL), face)
            self.assertEqual(mesh_face(mesh, POOL), faces[-1])

    def test_three_hundred_moments(self):
        chance = random.Random(3)
        mesh, rows, joinings = Mesh(FORTY, 3), [[]], joinings_that_come_out(chance, FORTY, 4000, 3)
        while mesh.moment() < 300:
            if chance.random() < 0.8 and len(rows[-1]) < 140:
                mesh.join(*joinings.pop())
            elif rows[-1]:
                mesh.take(chance.choice(rows[-1])[0])
            if mesh.moment() == len(rows):
                rows.append(mesh.standing())
        self.assertGreater(max(map(len, rows)), 60)
        for then in range(0, 301, 7):
            self.assertEqual(mesh.at(then).standing(), rows[then])
        times = mesh.times_together(FORTY[0], FORTY[1])
        self.assertEqual(times, stretches_plainly([mesh.at(then).together(*FORTY[:2]) for then in range(301)]))


class Times(unittest.TestCase):
    def test_ordinary(self):
        mesh = Mesh(["a", "b", "c"], 0)
        mesh.join("a", "b", 0)
        mesh.join("b", "c", 0)
        mesh.take(0)
        mesh.join("a", "c", 0)
        self.assertEqual(mesh.times_together("a", "b"), [(1, 2), (4, 4)])
        self.assertEqual(mesh.times_together("b", "a"), [(1, 2), (4, 4)])
        self.assertEqual(mesh.times_together("b", "c"), [(2, 4)])
        self.assertEqual(mesh.times_together("b", "b"), [(0, 4)])
        pairs = (("a", "b"), ("c", "a"), ("a", "a"))
        self.assertEqual([mesh.eldest_time(*pair) for pair in pairs], [1, 2, 0])

    def test_names_that_came_went_and_came_again(self):
        mesh = Mesh(["a"], 0)
        mesh.put_name("b")
        mesh.join("a", "b", 0)
        mesh.drop_name("b")
        mesh.put_name("b")
        mesh.put_name("c")
        mesh.join("b", "a", 0)
        mesh.drop_name("a")
        self.assertEqual(mesh.times_together("b", "b"), [(1, 2), (4, 7)])
        self.assertEqual(mesh.times_together("a", "b"), [(2, 2), (6, 6)])
        self.assertEqual(mesh.times_together("a", "a"), [(0, 6)])
        self.assertEqual(mesh.times_together("c", "c"), [(5, 7)])
        pairs = (("b", "b"), ("b", "a"), ("c", "c"))
        self.assertEqual([mesh.eldest_time(*pair) for pair in pairs], [1, 2, 5])

    def test_names_that_never_were_there(self):
        mesh = Mesh(["a"], 0)
        mesh.join("a", "a", 0)
        for one, other in (("x", "x"), ("a", "x"), ("x", "a"), ("x", "y")):
            self.assertEqual(mesh.times_together(one, other), [])
            self.assertIsNone(mesh.eldest_time(one, other))

    def test_never_together(self):
        mesh = Mesh(["a", "b"], 0)
        self.assertEqual(mesh.times_together("a", "b"), [])
        self.assertIsNone(mesh.eldest_time("a", "b"))

    def test_set_against_all_moments(self):
        chance = random.Random(4)
        for again in range(25):
            mesh = chance_mesh(chance, 25)[0]
            pasts = [mesh.at(then) for then in range(mesh.moment() + 1)]
            for one, other in itertools.product(POOL, repeat=2):
                marks = [told_or_refused(past.together, one, other) is True for past in pasts]
                self.assertEqual(mesh.times_together(one, other), stretches_plainly(marks))
                self.assertEqual(mesh.eldest_time(one, other), marks.index(True) if True in marks else None)


class Between(unittest.TestCase):
    def small(self):
        mesh = Mesh(["a", "b", "c"], 0)
        mesh.join("b", "a", 0)
        mesh.put_name("d")
        mesh.join("d", "b", 0)
        mesh.drop_name("a")
        return mesh

    def test_forward_and_backward(self):
        mesh = self.small()
        self.assertEqual(mesh.between(0, 1), [("a", ["a"], ["a", "b"]), ("b", ["b"], ["a", "b"])])
        self.assertEqual(mesh.between(1, 0), [("a", ["a", "b"], ["a"]), ("b", ["a", "b"], ["b"])])
        self.assertEqual(mesh.between(0, 4), [("a", ["a"], None), ("b", ["b"], ["b", "d"]), ("d", None, ["b", "d"])])
        self.assertEqual(mesh.between(4, 0), [("a", None, ["a"]), ("b", ["b", "d"], ["b"]), ("d", ["b", "d"], None)])
        self.assertEqual(mesh.between(1, 2), [("d", None, ["d"])])

    def test_of_a_moment_and_itself(self):
        mesh = self.small()
        for then in range(5):
            self.assertEqual(mesh.between(then, then), [])

    def test_the_same_class_by_other_joinings_is_no_other_one(self):
        mesh = Mesh(["a", "b"], 0)
        mesh.join("a", "b", 0)
        mesh.take(0)
        mesh.join("b", "a", 7)
        self.assertEqual(mesh.between(1, 3), [])

    def test_what_is_no_moment(self):
        mesh = self.small()
        for then, later in ((-1, 0), (0, -1), (5, 0), (0, 5), (-1, 5), (5, 5), (-1, -1)):
            with self.assertRaises(NoMoment):
                mesh.between(then, later)
        with self.assertRaises(NoMoment) as told:
            mesh.between(5, -1)
        self.assertIn("5", str(told.exception))

    def test_its_classes_are_lists_of_their_own(self):
        mesh = self.small()
        told = mesh.between(0, 3)
        found = list(lists_in(told))
        self.assertEqual(len({id(one) for one in found}), len(found))
        told[0][1].append("x")
        self.assertEqual(told[1][1], ["b"])
        spoil_lists(told)
        self.assertEqual(mesh.between(0, 1), [("a", ["a"], ["a", "b"]), ("b", ["b"], ["a", "b"])])

    def test_set_against_both_moments(self):
        chance = random.Random(5)
        for again in range(10):
            mesh = chance_mesh(chance, 20)[0]
            pasts = [mesh.at(then) for then in range(mesh.moment() + 1)]
            for then, later in itertools.product(range(len(pasts)), repeat=2):
                rows = []
                for name in POOL:
                    pair = [told_or_refused(pasts[moment].class_of, name) for moment in (then, later)]
                    old, new = [None if told == "NoName" else told for told in pair]
                    rows += [(name, old, new)] if old != new else []
                self.assertEqual(mesh.between(then, later), rows)


if __name__ == "__main__":
    unittest.main()
