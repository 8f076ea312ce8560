"""What is promised over the whole program."""

import importlib
import inspect
import itertools
import random
import unittest

from helper import (
    FORTY, TURNS, chance_deed, check_told_is_own, joinings_that_come_out, mesh_face, plain_classes, some_joinings,
    some_rows, told_or_refused,
)
from joinback.eldest import eldest, eldest_way, in_place_of, needed, since
from joinback.fewest import fewest_way, levels_of
from joinback.mesh import Mesh
from joinback.plain import apart, classes, numbers_of
from joinback.plaincheck import shows_numbers, shows_parted, shows_ring, shows_way
from joinback.spans import class_counts, most_together, together_times
from joinback.stack import Stack
from joinback.stretches import answers_at, clash_times, standing_at
from joinback.waycheck import shows_fewest, shows_since

# By file: its defs, each with how many things it is handed.
DEFS = {
    "steps": {"counted": 2, "led": 3, "steps_of": 3},
    "plain": {"classes": 2, "numbers_of": 3, "apart": 5},
    "plaincheck": {"shows_numbers": 4, "shows_ring": 5, "shows_way": 4, "shows_parted": 5},
    "fewest": {"fewest_way": 3, "levels_of": 3},
    "eldest": {"eldest": 2, "eldest_way": 3, "since": 3, "needed": 2, "in_place_of": 3},
    "waycheck": {"shows_fewest": 5, "shows_since": 6},
    "stretches": {"standing_at": 2, "answers_at": 4, "clash_times": 3},
    "spans": {"together_times": 3, "class_counts": 2, "most_together": 2},
    "desk": {"run": 1},
}
METHODS = {
    Stack: {"join": 3, "weigh": 2, "back": 0, "deeds": 0, "standing": 0, "together": 2, "steps": 2, "class_of": 1,
            "all_classes": 0, "chain": 1, "looks": 0, "size_of": 1, "sum_of": 1, "leader": 2, "leaders": 1},
    Mesh: {"join": 3, "take": 1, "put_name": 1, "drop_name": 1, "names_now": 0, "standing": 0, "holding": 0,
           "together": 2, "steps": 2, "class_of": 1, "all_classes": 0, "way": 2, "few_way": 2, "moment": 0, "at": 1,
           "copy": 0, "times_together": 2, "eldest_time": 2, "between": 2},
}
FILES = ("errors", "naming", "leading", "standings", "stack", "mesh", "deskwords") + tuple(DEFS)


class Interface(unittest.TestCase):
    def test_every_file_is_there(self):
        for name in FILES:
            self.assertEqual(importlib.import_module("joinback." + name).__name__, "joinback." + name)

    def test_every_def_takes_what_it_is_handed(self):
        for name, defs in DEFS.items():
            for word, many in defs.items():
                deed = getattr(importlib.import_module("joinback." + name), word)
                self.assertEqual(len(inspect.signature(deed).parameters), many, word)

    def test_every_method_takes_what_it_is_handed(self):
        for kind, methods in METHODS.items():
            thing = kind(["a", "b"], 0)
            for word, many in methods.items():
                self.assertEqual(len(inspect.signature(getattr(thing, word)).parameters), many, word)


class WholeCase(unittest.TestCase):
    def check_pair(self, names, joinings, one, other):
        """What is told of two names bears its proof: ways, or names that part them."""
        way, eldest_one, first = (ask(joinings, one, other) for ask in (fewest_way, eldest_way, since))
        group = [group for group in plain_classes(names, joinings) if one in group][0]
        if other in group:
            self.assertTrue(shows_way(joinings, one, other, eldest_one))
            self.assertTrue(shows_fewest(joinings, one, other, way, levels_of(joinings, one, other)))
            ahead = [near for near in plain_classes(names, joinings[:max(first, 0)]) if one in near][0]
            some = [] if one == other else ahead
            self.assertTrue(shows_since(joinings, one, other, first, eldest_one, some))
        else:
            self.assertEqual((way, eldest_one, first, levels_of(joinings, one, other)), (None,) * 4)
            self.assertTrue(shows_parted(names, joinings, one, other, group))

    def check_numbers(self, names, joinings, turn):
        """Numbers that come out, or a ring that doesn't: never both."""
        told = numbers_of(names, joinings, turn)
        if told[0] == "ring":
            self.assertTrue(shows_ring(names, joinings, turn, told[1], told[2]))
        else:
            self.assertTrue(shows_numbers(names, joinings, turn, told[1]))
        return told[0]


class WhatIsToldBearsItsProof(WholeCase):
    def test_of_chance_joinings(self):
        chance, words = random.Random(1), []
        for again in range(150):
            names = chance.sample(FORTY, chance.randrange(1, 9))
            turn = chance.choice(TURNS)
            joinings = some_joinings(chance, names, chance.randrange(12), (0, 0, 0, 1))
            words.append(self.check_numbers(names, joinings, turn))
            for one, other in itertools.product(names, repeat=2):
                self.check_pair(names, joinings, one, other)
        self.assertEqual(set(words), {"numbers", "ring"})

    def test_of_a_mesh_at_any_moment(self):
        chance, pool = random.Random(2), ["a", "b", "c", "d"]
        for again in range(20):
            turn = chance.choice(TURNS)
            mesh = Mesh(pool[:3], turn)
            for deed in range(25):
                word, *things = chance_deed(chance, mesh, pool)
                told_or_refused(getattr(mesh, word), *things)
            for then in range(mesh.moment() + 1):
                self.check_mesh(mesh.at(then), turn)

    def check_mesh(self, mesh, turn):
        """What a mesh tells by its own numbers is taken by the checkers of those that stand."""
        names, rows = mesh.names_now(), mesh.standing()
        joinings, place = [row[1:] for row in rows], {row[0]: at for at, row in enumerate(rows)}
        self.assertEqual(self.check_numbers(names, joinings, turn), "numbers")
        for one, other in itertools.product(names, repeat=2):
            self.check_pair(names, joinings, one, other)
            if mesh.together(one, other):
                way, few = [tuple((place[n], side) for n, side in told)
                            for told in (mesh.way(one, other), mesh.few_way(one, other))]
                self.assertTrue(shows_way(joinings, one, other, way))
                self.assertTrue(shows_fewest(joinings, one, other, few, levels_of(joinings, one, other)))
            else:
                self.assertTrue(shows_parted(names, joinings, one, other, mesh.class_of(one)))

    def test_a_clash_of_a_mesh_is_a_ring_with_what_was_refused(self):
        chance, names, many = random.Random(3), ["a", "b", "c", "d"], 0
        for again in range(60):
            turn = chance.choice((0, 2, 3, 1000))
            mesh = Mesh(names, turn)
            for one, other, step in joinings_that_come_out(chance, names, 12, turn):
                told = mesh.join(one, other, step)
                if told[0] == "clash":
                    many += 1
                    joinings = [row[1:] for row in mesh.standing()] + [(one, other, step)]
                    place = {row[0]: at for at, row in enumerate(mesh.standing())}
                    ring = tuple((place[n], side) for n, side in told[1]) + ((len(joinings) - 1, -1),)
                    self.assertTrue(shows_ring(names, joinings, turn, one, ring))
        self.assertGreater(many, 50)


class RoadsThatTellTheSame(WholeCase):
    def history(self, chance, names, turn):
        """A mesh of names that stay, and its joinings as rows over its moments."""
        mesh, begins, ends = Mesh(names, turn), {}, {}
        for joining in joinings_that_come_out(chance, names, 30, turn):
            told = mesh.join(*joining)
            if told[0] != "clash":
                begins[told[1]] = joining + (mesh.moment(),)
            if begins and chance.random() < 0.4:
                n = chance.choice(sorted(begins))
                if told_or_refused(mesh.take, n) != "NoJoin":
                    ends[n] = mesh.moment()
        return mesh, [begins[n] + (ends.get(n, mesh.moment() + 1),) for n in sorted(begins)]

    def test_a_mesh_s_moments_and_stretches_of_time(self):
        chance, names = random.Random(4), ["b", "d", "a", "c", "e"]
        for again in range(25):
            turn = chance.choice(TURNS)
            mesh, rows = self.history(chance, names, turn)
            self.assertEqual(clash_times(names, turn, rows), [])
            counts, best = class_counts(names, rows), most_together(names, rows)
            for then in range(mesh.moment() + 1):
                past = mesh.at(then)
                self.assertEqual(standing_at(rows, then), [row[0] for row in past.standing()])
                self.assertEqual([many for time, many in counts if time <= then][-1], len(past.all_classes()))
                self.assertLessEqual(max(map(len, past.all_classes())), best[0])
                pairs = list(itertools.product(names, repeat=2))
                told = answers_at(names, turn, rows, [pair + (then,) for pair in pairs])
                for pair, answer in zip(pairs, told):
                    steps = past.steps(*pair)
                    wanted = ("apart", past.class_of(pair[0])) if steps is None else ("steps", steps)
                    self.assertEqual((answer[0], sorted(answer[1]) if steps is None else answer[1]), wanted)
            self.assertEqual(max(map(len, mesh.at(best[1]).all_classes())), best[0])
            for one, other in itertools.combinations(names, 2):
                times = [(first, last + 1) for first, last in mesh.times_together(one, other)]
                self.assertEqual(together_times(rows, one, other), times)

    def test_a_stack_and_a_mesh_from_which_the_last_one_is_taken(self):
        chance, names = random.Random(5), ["b", "d", "a", "c"]
        for again in range(40):
            turn = chance.choice(TURNS)
            stack, mesh = Stack(names, turn), Mesh(names, turn)
            for joining in joinings_that_come_out(chance, names, 20, turn):
                self.assertEqual(stack.join(*joining)[0], mesh.join(*joining)[0])
                if chance.random() < 0.4 and stack.back():
                    mesh.take(mesh.standing()[-1][0])
                self.assertEqual(stack.standing(), [row[1:] for row in mesh.standing()])
                self.assertEqual(stack.all_classes(), mesh.all_classes())
                for pair in itertools.product(names, repeat=2):
                    self.assertEqual(stack.steps(*pair), mesh.steps(*pair))

    def test_what_is_taken_back_is_as_if_it_had_never_been(self):
        chance, names = random.Random(6), ["b", "d", "a", "c"]
        for again in range(30):
            joinings = joinings_that_come_out(chance, names, 14, 5)
            longer, shorter, mesh = Stack(names, 5), Stack(names, 5), Mesh(names, 5)
            for joining in joinings[:7]:
                for thing in (longer, shorter, mesh):
                    thing.join(*joining)
            face, moment = mesh_face(mesh, names), mesh.moment()
            standing = mesh.standing()
            for joining in joinings[7:]:
                longer.join(*joining)
                mesh.join(*joining)
            while len(longer.deeds()) > len(shorter.deeds()):
                longer.back()
            for row in mesh.standing()[len(standing):]:
                mesh.take(row[0])
            self.assertEqual(mesh.standing(), standing)
            self.assertEqual(mesh_face(mesh.at(moment), names), face)
            for name in names:
                self.assertEqual(longer.chain(name), shorter.chain(name))
                self.assertEqual(mesh.class_of(name), longer.class_of(name))
            for pair in itertools.product(names, repeat=2):
                self.assertEqual(longer.steps(*pair), shorter.steps(*pair))
                self.assertEqual(mesh.way(*pair), mesh.at(moment).way(*pair))


class HandedInAndTold(WholeCase):
    def asks(self, names, turn, joinings, rows):
        one, other = names[0], names[-1]
        asks = [(one, other, time) for time in range(6)]
        return [
            lambda: classes(names, joinings), lambda: numbers_of(names, joinings, turn),
            lambda: told_or_refused(apart, names, joinings, turn, one, other),
            lambda: fewest_way(joinings, one, other), lambda: levels_of(joinings, one, other),
            lambda: eldest(names, joinings), lambda: eldest_way(joinings, one, other),
            lambda: since(joinings, one, other), lambda: needed(names, joinings),
            lambda: [in_place_of(names, joinings, n) for n in range(len(joinings))],
            lambda: standing_at(rows, 5), lambda: answers_at(names, turn, rows, asks),
            lambda: clash_times(names, turn, rows), lambda: together_times(rows, one, other),
            lambda: class_counts(names, rows), lambda: most_together(names, rows),
        ]

    def test_the_same_is_told_of_lists_and_tuples_which_stay(self):
        chance = random.Random(7)
        for again in range(60):
            names = chance.sample(FORTY, chance.randrange(1, 6))
            turn = chance.choice(TURNS)
            joinings = some_joinings(chance, names, chance.randrange(9), (0, 0, 1))
            rows = some_rows(chance, names, chance.randrange(9), 8)
            kept = (list(names), list(joinings), list(rows))
            told = [ask() for ask in self.asks(names, turn, joinings, rows)]
            again_told = [ask() for ask in self.asks(tuple(names), turn, tuple(joinings), tuple(rows))]
            self.assertEqual(again_told, told)
            for ask in self.asks(names, turn, joinings, rows):
                check_told_is_own(self, ask)
            self.assertEqual((names, joinings, rows), kept)


if __name__ == "__main__":
    unittest.main()
