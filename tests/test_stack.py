import itertools
import random
import unittest

from helper import FAR, FORTY, TURNS, check_told_is_own, joinings_that_come_out, plain_classes, some_joinings
from joinback.errors import BadName, NoName
from joinback.plain import apart, classes
from joinback.stack import Stack
from joinback.steps import counted

RULES = ("least", "last", "first", "heavy", "busy")
WRONG_NAMES = ("x", "aa", "", "A", "a ", "abcdefghi")


def plain_leader(group, rule, order, weights, joinings):
    """The leader by going through the class, as the document tells it."""
    ends = [name for joining in joinings for name in joining[:2]]
    if rule == "least":
        return sorted(group)[0]
    if rule == "last":
        return sorted(group)[-1]
    if rule == "first":
        return sorted(group, key=order.index)[0]
    mark = weights.__getitem__ if rule == "heavy" else ends.count
    best = max(mark(name) for name in group)
    return [name for name in sorted(group) if mark(name) == best][0]


def done_again(names, turn, deeds):
    """A new stack to which told deeds are done."""
    stack = Stack(names, turn)
    for deed in deeds:
        if deed[0] == "join":
            stack.join(*deed[1:])
        else:
            stack.weigh(*deed[1:])
    return stack


def face(stack, names):
    """All that is told of a stack, but what its last looks were and which heads it has."""
    told = [stack.deeds(), stack.standing(), stack.all_classes()]
    told += [stack.leaders(rule) for rule in RULES]
    for name in names:
        told += [stack.class_of(name), stack.size_of(name), stack.sum_of(name)]
        told += [stack.leader(name, rule) for rule in RULES]
    told += [(stack.together(*pair), stack.steps(*pair)) for pair in itertools.product(names, repeat=2)]
    return told


class StackCase(unittest.TestCase):
    def check_classes(self, stack, names, turn, joinings):
        """Everything is as going through all joinings that stand tells it."""
        groups = classes(names, joinings)
        self.assertEqual(groups, plain_classes(names, joinings))
        self.assertEqual(stack.standing(), joinings)
        self.assertEqual(stack.all_classes(), groups)
        self.assertEqual([stack.class_of(name) for group in groups for name in group],
                         [group for group in groups for name in group])
        self.check_chains(stack, groups)
        for one, other in itertools.product(names[:6], names):
            self.check_pair(stack, one, other, apart(names, joinings, turn, one, other))

    def check_pair(self, stack, one, other, steps):
        self.assertEqual(stack.steps(one, other), steps)
        self.check_looks(stack, stack.chain(one), stack.chain(other))
        self.assertIs(stack.together(one, other), steps is not None)
        self.check_looks(stack, stack.chain(one), stack.chain(other))

    def check_looks(self, stack, here, there):
        """Looks are told of two chains as they were ahead of the question."""
        self.assertLessEqual(stack.looks(), len(set(here + there)))
        if here[0] == there[0]:
            self.assertEqual(stack.looks(), 1)
        else:
            self.assertGreaterEqual(stack.looks(), 2)

    def check_chains(self, stack, groups):
        behind = {}
        for group in groups:
            chains = [stack.chain(name) for name in group]
            self.assertEqual(len({chain[-1] for chain in chains}), 1)
            for name, chain in zip(group, chains):
                self.assertEqual(chain[0], name)
                self.assertEqual(len(set(chain)), len(chain))
                self.assertLessEqual(set(chain), set(group))
                self.assertLessEqual(len(chain), len(group).bit_length())
                for here, there in zip(chain, chain[1:] + [None]):
                    self.assertEqual(behind.setdefault(here, there), there)

    def check_sums(self, stack, names, weights, joinings):
        groups = plain_classes(names, joinings)
        for group in groups:
            for name in group:
                self.assertEqual(stack.size_of(name), len(group))
                self.assertEqual(stack.sum_of(name), sum(weights[member] for member in group))
                for rule in RULES:
                    wanted = plain_leader(group, rule, names, weights, joinings)
                    self.assertEqual(stack.leader(name, rule), wanted)
        for rule in RULES:
            wanted = [plain_leader(group, rule, names, weights, joinings) for group in groups]
            self.assertEqual(stack.leaders(rule), wanted)

    def check_join(self, stack, names, turn, one, other, step):
        """A join tells what the plain answers do, and changes just that."""
        deeds, joinings = stack.deeds(), stack.standing()
        here, there = stack.chain(one), stack.chain(other)
        known = apart(names, joinings, turn, one, other)
        told = stack.join(one, other, step)
        self.check_looks(stack, here, there)
        if known is not None and known != counted(turn, step):
            self.assertEqual(told, ("clash", known))
            self.assertEqual(stack.deeds(), deeds)
        else:
            self.assertEqual(told, ("joined" if known is None else "known", len(joinings)))
            self.assertEqual(stack.deeds(), deeds + [("join", one, other, step)])
        return told[0]

    def bad_place(self, names):
        with self.assertRaises(BadName) as told:
            Stack(names, 0)
        return told.exception.place


class Made(StackCase):
    def test_names_are_refused_at_the_first_wrong_place(self):
        self.assertEqual(self.bad_place(["a", "b", "a"]), 2)
        self.assertEqual(self.bad_place(["a", "a", "B"]), 1)
        self.assertEqual(self.bad_place(["a", "B", "a"]), 1)
        self.assertEqual(self.bad_place([""]), 0)
        self.assertEqual(self.bad_place(["a", "abcdefgh", "abcdefghi"]), 2)
        self.assertEqual(self.bad_place(("a", "b", "c", "c")), 3)
        for thing in (None, 7, True, ["a"], ("a",), "a b", "a1", "", "\u00e4"):
            self.assertEqual(self.bad_place(["a", thing, "a"]), 1)

    def test_no_names_at_all(self):
        for names in ([], ()):
            stack = Stack(names, 0)
            self.assertEqual((stack.all_classes(), stack.standing(), stack.deeds()), ([], [], []))
            self.assertEqual([stack.leaders(rule) for rule in RULES], [[]] * 5)
            self.assertIsNone(stack.back())
            self.assertEqual(stack.looks(), 0)
            with self.assertRaises(NoName):
                stack.class_of("a")

    def test_at_first_each_name_is_alone(self):
        stack = Stack(["c", "a", "b"], 0)
        self.assertEqual(stack.all_classes(), [["a"], ["b"], ["c"]])
        self.assertEqual(stack.chain("b"), ["b"])
        self.assertEqual((stack.size_of("b"), stack.sum_of("b"), stack.steps("a", "b")), (1, 0, None))
        self.assertIs(stack.together("a", "b"), False)


class Join(StackCase):
    def test_joined_known_and_clash(self):
        stack = Stack(["a", "b", "c"], 0)
        self.assertEqual(stack.join("a", "b", 3), ("joined", 0))
        self.assertEqual(stack.join("c", "b", 5), ("joined", 1))
        self.assertEqual(stack.join("a", "c", -2), ("known", 2))
        self.assertEqual(stack.join("c", "a", 2), ("known", 3))
        self.assertEqual(stack.join("a", "c", 2), ("clash", -2))
        self.assertEqual(stack.join("b", "a", 3), ("clash", -3))
        self.assertEqual(stack.standing(), [("a", "b", 3), ("c", "b", 5), ("a", "c", -2), ("c", "a", 2)])

    def test_steps_are_counted_by_the_turn(self):
        for turn in TURNS:
            stack = Stack(["a", "b", "c"], turn)
            self.assertEqual(stack.join("a", "b", -7), ("joined", 0))
            self.assertEqual(stack.join("b", "c", FAR), ("joined", 1))
            self.assertEqual(stack.steps("a", "c"), counted(turn, FAR - 7))
            self.assertEqual(stack.steps("c", "a"), counted(turn, 7 - FAR))
            self.assertEqual(stack.join("b", "a", 7 + 3 * turn), ("known", 2))
            self.assertEqual(stack.join("b", "a", 7 - 2 * turn), ("known", 3))
            if turn == 1:
                self.assertEqual(stack.join("b", "a", 8), ("known", 4))
            else:
                self.assertEqual(stack.join("b", "a", 8), ("clash", counted(turn, 7)))

    def test_far_steps_either_way(self):
        for turn in TURNS:
            stack = Stack(FORTY, turn)
            for at in range(39):
                stack.join(FORTY[at], FORTY[at + 1], FAR)
            self.assertEqual(stack.steps(FORTY[0], FORTY[39]), counted(turn, 39 * FAR))
            self.assertEqual(stack.steps(FORTY[39], FORTY[0]), counted(turn, -39 * FAR))
            while stack.back() is not None:
                pass
            for at in range(39):
                stack.join(FORTY[at], FORTY[at + 1], -FAR)
            self.assertEqual(stack.steps(FORTY[0], FORTY[39]), counted(turn, -39 * FAR))

    def test_a_name_with_itself(self):
        for turn in TURNS:
            stack = Stack(["a", "b"], turn)
            self.assertEqual(stack.join("a", "a", 0), ("known", 0))
            self.assertEqual(stack.join("a", "a", 5 * turn), ("known", 1))
            self.assertEqual(stack.join("a", "a", -turn), ("known", 2))
            self.assertEqual(stack.join("a", "a", 1), ("known", 3) if turn == 1 else ("clash", 0))
            self.assertEqual(stack.steps("a", "a"), 0)
            self.assertEqual(stack.all_classes(), [["a"], ["b"]])

    def test_a_clash_changes_nothing_and_is_no_deed(self):
        stack = Stack(["a", "b", "c"], 0)
        stack.weigh("b", 4)
        stack.join("a", "b", 1)
        before = face(stack, ["a", "b", "c"])
        chains = [stack.chain(name) for name in ("a", "b", "c")]
        self.assertEqual(stack.join("b", "a", 1), ("clash", -1))
        self.assertEqual(stack.join("c", "c", 1), ("clash", 0))
        self.assertEqual(face(stack, ["a", "b", "c"]), before)
        self.assertEqual([stack.chain(name) for name in ("a", "b", "c")], chains)
        self.assertEqual(stack.join("c", "a", 0), ("joined", 1))
        self.assertEqual(stack.back(), ("join", "c", "a", 0))
        self.assertEqual(stack.back(), ("join", "a", "b", 1))

    def test_n_is_how_many_stand_ahead_of_it(self):
        stack = Stack(["a", "b", "c"], 0)
        self.assertEqual(stack.join("a", "b", 0), ("joined", 0))
        stack.weigh("a", 1)
        self.assertEqual(stack.join("b", "c", 0), ("joined", 1))
        self.assertEqual(stack.join("a", "c", 1), ("clash", 0))
        self.assertEqual(stack.join("a", "c", 0), ("known", 2))
        stack.back()
        stack.back()
        stack.weigh("b", 1)
        self.assertEqual(stack.join("b", "a", 0), ("known", 1))
        self.assertEqual(stack.join("c", "a", 0), ("joined", 2))

    def test_names_that_are_not_there(self):
        stack = Stack(["a", "b"], 0)
        stack.join("a", "b", 1)
        before = face(stack, ["a", "b"])
        stack.steps("a", "a")
        for wrong in WRONG_NAMES:
            asks = [(stack.join, "a", wrong, 1), (stack.join, wrong, "a", 1), (stack.join, wrong, wrong, 0),
                    (stack.weigh, wrong, 1), (stack.together, "a", wrong), (stack.together, wrong, "a"),
                    (stack.together, wrong, wrong), (stack.steps, "a", wrong), (stack.steps, wrong, "b"),
                    (stack.steps, wrong, wrong), (stack.class_of, wrong), (stack.chain, wrong), (stack.size_of, wrong),
                    (stack.sum_of, wrong)] + [(stack.leader, wrong, rule) for rule in RULES]
            for deed, *things in asks:
                with self.assertRaises(NoName):
                    deed(*things)
                self.assertEqual(stack.looks(), 1)
        self.assertEqual(face(stack, ["a", "b"]), before)

    def test_weigh_tells_nothing(self):
        self.assertIsNone(Stack(["a"], 0).weigh("a", 3))


class Back(StackCase):
    def test_to_the_first_deed_and_beyond(self):
        stack = Stack(["a", "b"], 5)
        stack.join("a", "b", 12)
        stack.weigh("a", -4)
        stack.join("b", "a", -2)
        stack.weigh("a", 9)
        deeds = [("join", "a", "b", 12), ("weigh", "a", -4), ("join", "b", "a", -2), ("weigh", "a", 9)]
        self.assertEqual(stack.deeds(), deeds)
        for many in (4, 3, 2, 1):
            self.assertEqual(stack.back(), deeds[many - 1])
            self.assertEqual(stack.deeds(), deeds[:many - 1])
        for again in range(3):
            self.assertIsNone(stack.back())
        self.assertEqual(face(stack, ["a", "b"]), face(Stack(["a", "b"], 5), ["a", "b"]))
        self.assertEqual(stack.join("b", "a", 1), ("joined", 0))

    def test_the_weight_that_was_there_ahead_is_there_again(self):
        stack = Stack(["a", "b"], 0)
        for n in (5, -7, FAR, 5):
            stack.weigh("a", n)
        stack.weigh("b", 1)
        self.assertEqual(stack.back(), ("weigh", "b", 1))
        self.assertEqual((stack.sum_of("a"), stack.sum_of("b")), (5, 0))
        for n, rest in ((5, FAR), (FAR, -7), (-7, 5), (5, 0)):
            self.assertEqual(stack.back(), ("weigh", "a", n))
            self.assertEqual(stack.sum_of("a"), rest)

    def test_steps_are_told_as_they_were_handed_in(self):
        stack = Stack(["a", "b"], 3)
        for step in (-FAR, 3 - FAR, 6 - FAR):
            stack.join("a", "b", step)
        self.assertEqual(stack.standing(), [("a", "b", -FAR), ("a", "b", 3 - FAR), ("a", "b", 6 - FAR)])
        self.assertEqual(stack.back(), ("join", "a", "b", 6 - FAR))

    def test_a_known_one_taken_back_parts_nothing(self):
        stack = Stack(["a", "b"], 0)
        stack.join("a", "b", 1)
        stack.join("a", "b", 1)
        stack.join("a", "a", 0)
        stack.back()
        stack.back()
        self.assertEqual(stack.all_classes(), [["a", "b"]])
        stack.back()
        self.assertEqual(stack.all_classes(), [["a"], ["b"]])

    def test_what_clashed_may_be_joined_when_the_other_is_gone(self):
        stack = Stack(["a", "b"], 0)
        stack.join("a", "b", 1)
        self.assertEqual(stack.join("a", "b", 2), ("clash", 1))
        stack.back()
        self.assertEqual(stack.join("a", "b", 2), ("joined", 0))
        self.assertEqual(stack.steps("b", "a"), -2)

    def test_what_is_taken_back_is_as_if_it_had_never_been(self):
        chance = random.Random(11)
        names = ["d", "a", "e", "c", "b"]
        for again in range(60):
            turn = chance.choice(TURNS)
            stack = Stack(names, turn)
            for joining in joinings_that_come_out(chance, names, 12, turn):
                stack.join(*joining)
                if chance.random() < 0.4:
                    stack.weigh(chance.choice(names), chance.randrange(-3, 4))
                if chance.random() < 0.4:
                    stack.back()
                self.assertEqual(face(stack, names), face(done_again(names, turn, stack.deeds()), names))


class ChainAndLooks(StackCase):
    def test_looks_are_nought_at_first(self):
        stack = Stack(["a", "b"], 0)
        stack.weigh("a", 1)
        stack.class_of("a")
        stack.chain("b")
        stack.back()
        self.assertEqual(stack.looks(), 0)

    def test_looks_of_the_last_one_that_was_not_refused(self):
        stack = Stack(["a", "b", "c"], 0)
        stack.join("a", "b", 0)
        self.assertEqual(stack.looks(), 2)
        stack.together("a", "a")
        self.assertEqual(stack.looks(), 1)
        stack.steps("a", "c")
        self.assertEqual((stack.looks(), stack.looks()), (2 if len(stack.chain("a")) == 1 else 3, stack.looks()))
        stack.steps("b", "b")
        self.assertEqual(stack.looks(), 1)
        stack.join("a", "b", 1)
        self.assertEqual(stack.looks(), 2)
        stack.join("a", "a", 1)
        self.assertEqual(stack.looks(), 1)
        stack.join("a", "b", 0)
        self.assertEqual(stack.looks(), 2)
        stack.join("c", "c", 0)
        self.assertEqual(stack.looks(), 1)

    def test_looks_of_other_deeds_stay(self):
        stack = Stack(["a", "b"], 0)
        stack.join("a", "b", 0)
        for ask in (stack.back, stack.all_classes, stack.deeds, stack.standing):
            ask()
            self.assertEqual(stack.looks(), 2)
        for ask in (stack.chain, stack.class_of, stack.size_of, stack.sum_of):
            ask("a")
            self.assertEqual(stack.looks(), 2)
        stack.weigh("a", 1)
        stack.leader("a", "busy")
        stack.leaders("heavy")
        self.assertEqual(stack.looks(), 2)

    def test_chains_stay_short_whatever_is_joined(self):
        for pairs in (
            [(at, at + 1) for at in range(39)],
            [(at + 1, at) for at in range(39)],
            [(0, at) for at in range(1, 40)],
            [(at, 0) for at in range(1, 40)],
            [(at, at + width) for width in (1, 2, 4, 8, 16) for at in range(0, 40 - width, 2 * width)] + [(0, 32)],
            [(at + width, at) for width in (1, 2, 4, 8, 16) for at in range(0, 40 - width, 2 * width)] + [(32, 0)],
        ):
            stack = Stack(FORTY, 0)
            for one, other in pairs:
                here, there = stack.chain(FORTY[one]), stack.chain(FORTY[other])
                stack.join(FORTY[one], FORTY[other], 1)
                self.check_looks(stack, here, there)
                self.check_chains(stack, stack.all_classes())
            self.assertEqual(len(stack.all_classes()), 1)
            while stack.back() is not None:
                self.check_chains(stack, stack.all_classes())


class SumsAndLeaders(StackCase):
    def test_sums_with_weights_below_nought(self):
        stack = Stack(["a", "b", "c"], 0)
        stack.weigh("a", -5)
        stack.weigh("b", 3)
        stack.join("b", "a", 9)
        self.assertEqual([stack.sum_of(name) for name in "abc"], [-2, -2, 0])
        self.assertEqual([stack.size_of(name) for name in "abc"], [2, 2, 1])
        stack.weigh("a", -FAR)
        stack.weigh("b", -FAR)
        self.assertEqual(stack.sum_of("b"), -2 * FAR)

    def test_each_rule(self):
        stack = Stack(["c", "b", "d", "a", "e"], 0)
        for one, other in (("a", "b"), ("b", "c"), ("c", "d")):
            stack.join(one, other, 0)
        stack.weigh("d", 2)
        stack.weigh("b", 1)
        told = {rule: stack.leader("a", rule) for rule in RULES}
        self.assertEqual(told, {"least": "a", "last": "d", "first": "c", "heavy": "d", "busy": "b"})
        self.assertEqual([stack.leader("e", rule) for rule in RULES], ["e"] * 5)
        self.assertEqual(stack.leaders("heavy"), ["d", "e"])
        self.assertEqual(stack.leaders("first"), ["c", "e"])

    def test_equal_ones_the_least(self):
        stack = Stack(["c", "b", "a"], 0)
        stack.join("c", "b", 0)
        stack.join("b", "a", 0)
        stack.join("a", "c", 0)
        self.assertEqual((stack.leader("c", "heavy"), stack.leader("c", "busy")), ("a", "a"))
        for name in ("a", "b", "c"):
            stack.weigh(name, -3)
        self.assertEqual(stack.leader("c", "heavy"), "a")
        stack.weigh("a", -4)
        self.assertEqual(stack.leader("a", "heavy"), "b")

    def test_busy_counts_known_ones_and_both_ends_of_one_with_itself(self):
        stack = Stack(["a", "b", "c", "d"], 0)
        stack.join("a", "b", 0)
        stack.join("c", "b", 0)
        self.assertEqual(stack.leader("a", "busy"), "b")
        stack.join("c", "a", 0)
        self.assertEqual(stack.leader("a", "busy"), "a")
        stack.join("c", "c", 0)
        self.assertEqual(stack.leader("a", "busy"), "c")
        stack.join("a", "a", 1)
        self.assertEqual(stack.leader("a", "busy"), "c")
        stack.join("b", "a", 0)
        stack.join("a", "b", 0)
        self.assertEqual(stack.leader("a", "busy"), "a")
        stack.back()
        self.assertEqual(stack.leader("a", "busy"), "c")

    def test_leaders_in_the_order_of_all_classes(self):
        stack = Stack(["f", "e", "d", "c", "b", "a"], 0)
        stack.join("a", "e", 0)
        stack.join("b", "d", 0)
        stack.weigh("e", 1)
        self.assertEqual(stack.all_classes(), [["a", "e"], ["b", "d"], ["c"], ["f"]])
        self.assertEqual(stack.leaders("least"), ["a", "b", "c", "f"])
        self.assertEqual(stack.leaders("last"), ["e", "d", "c", "f"])
        self.assertEqual(stack.leaders("first"), ["e", "d", "c", "f"])
        self.assertEqual(stack.leaders("heavy"), ["e", "b", "c", "f"])
        self.assertEqual(stack.leaders("busy"), ["a", "b", "c", "f"])


class SetAgainstThePlainAnswers(StackCase):
    def go(self, chance, names, turn, joinings, back):
        """Joins, weighs and takes back; after every deed all is checked. Tells the words of the joins."""
        stack, words, weights = Stack(names, turn), [], [{name: 0 for name in names}]
        for joining in joinings:
            word = self.check_join(stack, names, turn, *joining)
            words.append(word)
            weights += [dict(weights[-1])] if word != "clash" else []
            if chance.random() < 0.3:
                name, n = chance.choice(names), chance.randrange(-2, 3)
                stack.weigh(name, n)
                weights.append({**weights[-1], name: n})
            self.check_classes(stack, names, turn, stack.standing())
            self.check_sums(stack, names, weights[-1], stack.standing())
            while chance.random() < back:
                deeds = stack.deeds()
                self.assertEqual(stack.back(), deeds[-1] if deeds else None)
                self.assertEqual(stack.deeds(), deeds[:-1])
                del weights[max(1, len(deeds)):]
                self.check_classes(stack, names, turn, stack.standing())
                self.check_sums(stack, names, weights[-1], stack.standing())
        return words

    def test_few_names(self):
        chance, words = random.Random(1), []
        for again in range(40):
            turn = chance.choice(TURNS)
            names = chance.sample(["a", "b", "c", "d", "e", "ab"], chance.randrange(1, 7))
            joinings = joinings_that_come_out(chance, names, 12, turn)
            words += self.go(chance, names, turn, joinings, 0.3)
        self.assertEqual(set(words), {"joined", "known", "clash"})
        self.assertGreater(min(words.count(word) for word in set(words)), 20)

    def test_chance_steps(self):
        chance = random.Random(2)
        for again in range(30):
            names = chance.sample(FORTY, 5)
            joinings = some_joinings(chance, names, 10, (0, 1, -1, FAR, -FAR))
            self.go(chance, names, chance.choice(TURNS), joinings, 0.3)

    def test_forty_names_and_a_hundred_and_forty_joinings(self):
        chance = random.Random(3)
        joinings = joinings_that_come_out(chance, FORTY, 900, 7)
        stack = Stack(FORTY, 7)
        for joining in joinings:
            if len(stack.standing()) < 140:
                self.check_join(stack, FORTY, 7, *joining)
        self.assertEqual(len(stack.standing()), 140)
        while stack.back() is not None:
            if len(stack.standing()) % 20 == 0:
                self.check_classes(stack, FORTY, 7, stack.standing())

    def test_three_hundred_deeds(self):
        chance, names = random.Random(4), FORTY[:9]
        stack, deeds, many = Stack(names, 0), [], 0
        for joining in joinings_that_come_out(chance, names, 600, 0):
            if many == 300:
                break
            if chance.random() < 0.2:
                deeds.append(("weigh", joining[0], many))
                stack.weigh(joining[0], many)
                many += 1
            elif stack.join(*joining)[0] != "clash":
                deeds.append(("join",) + joining)
                many += 1
            while chance.random() < 0.35:
                self.assertEqual(stack.back(), deeds.pop() if deeds else None)
            self.assertEqual(stack.deeds(), deeds)
        self.assertEqual(many, 300)
        self.check_classes(stack, names, 0, [deed[1:] for deed in deeds if deed[0] == "join"])
        self.assertEqual(face(stack, names), face(done_again(names, 0, deeds), names))


class HandedInAndTold(StackCase):
    def small(self):
        stack = Stack(["c", "a", "b"], 0)
        stack.join("a", "b", 1)
        stack.weigh("a", 2)
        return stack

    def asks(self, stack):
        return [stack.deeds, stack.standing, stack.all_classes, lambda: stack.class_of("a"), lambda: stack.chain("a"),
                lambda: stack.chain("b"), lambda: stack.leaders("least"), lambda: stack.join("a", "b", 2),
                lambda: stack.steps("a", "b"), lambda: stack.together("a", "c"), lambda: stack.sum_of("b"),
                lambda: stack.leader("b", "heavy"), lambda: stack.size_of("b"), stack.looks]

    def test_what_is_handed_in_stays_and_later_changes_are_not_seen(self):
        names = ["c", "a", "b"]
        stack = Stack(names, 0)
        self.assertEqual(names, ["c", "a", "b"])
        names.clear()
        self.assertEqual(stack.all_classes(), [["a"], ["b"], ["c"]])
        stack.join("a", "b", 1)
        stack.back()
        self.assertEqual((names, stack.leader("c", "first")), ([], "c"))

    def test_tuples_do_for_lists(self):
        stack = Stack(("c", "a", "b"), 0)
        stack.join("a", "b", 1)
        stack.weigh("a", 2)
        self.assertEqual(face(stack, ["a", "b", "c"]), face(self.small(), ["a", "b", "c"]))

    def test_told_things_are_the_asker_s_own(self):
        stack = self.small()
        for ask in self.asks(stack):
            check_told_is_own(self, ask)

    def test_nothing_done_later_changes_what_was_told(self):
        stack = self.small()
        told = [ask() for ask in self.asks(stack)]
        wanted = repr(told)
        stack.join("c", "a", 5)
        stack.weigh("b", 7)
        stack.back()
        stack.back()
        stack.back()
        self.assertEqual(repr(told), wanted)

    def test_two_stacks_do_not_touch_one_another(self):
        names = ["c", "a", "b"]
        first, second = Stack(names, 0), Stack(names, 0)
        empty = face(second, ["a", "b", "c"])
        first.join("a", "b", 1)
        first.weigh("c", 5)
        self.assertEqual(face(second, ["a", "b", "c"]), empty)
        second.join("b", "c", 3)
        self.assertEqual(first.standing(), [("a", "b", 1)])
        self.assertEqual((first.sum_of("c"), second.sum_of("c")), (5, 0))

    def test_kinds_are_plain(self):
        stack = self.small()
        self.assertIs(stack.deeds()[0].__class__, tuple)
        self.assertIs(stack.standing()[0].__class__, tuple)
        self.assertIs(stack.back().__class__, tuple)
        self.assertIs(stack.join("c", "a", 4).__class__, tuple)
        for told in (stack.size_of("a"), stack.sum_of("a"), stack.steps("a", "b"), stack.looks()):
            self.assertIs(told.__class__, int)


if __name__ == "__main__":
    unittest.main()
