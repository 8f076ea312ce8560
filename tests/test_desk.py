import random
import unittest

from helper import FAR, check_told_is_own, told_or_refused
from joinback.desk import run
from joinback.errors import BadRow
from joinback.mesh import Mesh

RULES = ("least", "last", "first", "heavy", "busy")
RIGHT = {
    "name": "name a", "drop": "drop a", "join": "join a b 3", "take": "take 0", "weigh": "weigh a 1",
    "with": "with a b", "steps": "steps a b", "way": "way a b", "few": "few a b", "class": "class a",
    "classes": "classes", "holding": "holding", "sum": "sum a", "leader": "leader a busy", "times": "times a b",
    "then": "then 0 a b",
}
# Of each number that a row bears: the row without it, its least, its most.
NUMBERS = (
    ("join a b {}", -FAR, FAR), ("weigh a {}", -FAR, FAR), ("take {}", 0, FAR), ("then {} a b", 0, FAR),
)
NO_NUMBERS = ("", "-", "+1", "007", "00", "-0", "-00", "-01", "1.", "1.0", "1e3", "0x1", "1_0", "--1", "a", "1-", "0 ")
NO_NAMES = ("", "abcdefghi", "A", "aB", "a1", "1", "a-b", "a/b", "a_b", "-", "~", "a.")


def answers(*rows):
    return run("\n".join(("turn 0",) + rows))


class ReadCase(unittest.TestCase):
    def bad_row(self, text):
        with self.assertRaises(BadRow, msg=repr(text)) as told:
            run(text)
        return told.exception.row

    def is_right(self, row):
        """Whether a row may stand behind the first one; if not, it's that row which is told."""
        told = told_or_refused(run, f"turn 5\n{row}\n")
        if told == "BadRow":
            self.assertEqual(self.bad_row(f"turn 5\n{row}\n"), 1)
        return told != "BadRow"


class FirstRow(ReadCase):
    def test_turns(self):
        for turn in (0, 1, 2, 7, 10, 999, 1000):
            self.assertEqual(run(f"turn {turn}"), [])
        for word in ("1001", "-1", "007", "-0", "+1", "", "00", "01", "a", "-", "1.5", "10000000000000"):
            self.assertEqual(self.bad_row(f"turn {word}"), 0)

    def test_other_first_rows(self):
        for row in ("turn", "turn 1 2", "Turn 1", "turns 1", "1", "classes", "name a", " turn 1", "turn  1", "turn 1 ", " "):
            self.assertEqual(self.bad_row(row), 0)
            self.assertEqual(self.bad_row(f"\n\n{row}\nturn 1"), 2)

    def test_the_turn_counts(self):
        rows = "name a\nname b\njoin a b -3\nsteps a b\njoin b a 10"
        self.assertEqual(run("turn 7\n" + rows)[3:], ["4", "known 1"])
        self.assertEqual(run("turn 1000\n" + rows)[3:], ["997", "clash 0-"])
        self.assertEqual(run("turn 0\n" + rows)[3:], ["-3", "clash 0-"])

    def test_a_second_one_is_refused(self):
        self.assertEqual(self.bad_row("turn 1\nturn 1"), 1)
        self.assertEqual(self.bad_row("turn 1\n\nname a\nturn 0"), 3)

    def test_a_text_without_signs(self):
        for many in range(1, 6):
            self.assertEqual(self.bad_row("\n" * (many - 1)), many)

    def test_empty_rows_are_passed_over(self):
        self.assertEqual(run("\n\nturn 1\n\n\nname a\n\nclasses\n\n\n"), ["done", "a"])
        self.assertEqual(run("turn 1\n"), [])


class LaterRows(ReadCase):
    def test_each_word_with_its_number_of_words(self):
        for row in RIGHT.values():
            self.assertTrue(self.is_right(row), row)
            self.assertFalse(self.is_right(row + " a"), row)
            self.assertFalse(self.is_right(row + " 0"), row)
            cut = row.rpartition(" ")[0]
            self.assertFalse(cut and self.is_right(cut), row)

    def test_blanks(self):
        for row in RIGHT.values():
            for wrong in (row + " ", " " + row, row.replace(" ", "  ") + "  ", row + "\t"):
                self.assertFalse(self.is_right(wrong), wrong)
        for row in (" ", "  "):
            self.assertFalse(self.is_right(row))
        self.assertFalse(self.is_right("join  a b 1"))
        self.assertFalse(self.is_right("join a  b 1"))
        self.assertFalse(self.is_right("join a b  1"))

    def test_other_words(self):
        for row in ("Name a", "names a", "nam a", "put a", "x", "-", "#", "joins a b 1", "turn 1", "back", "run", "~"):
            self.assertFalse(self.is_right(row), row)

    def rows_with(self, name):
        """Right rows but for a name, which stands at each place where a name stands."""
        for row in RIGHT.values():
            words = row.split(" ")
            for place, word in enumerate(words):
                if word in ("a", "b"):
                    yield " ".join(words[:place] + [name] + words[place + 1:])

    def test_names(self):
        for name in ("a", "z", "abcdefgh", "name", "turn", "join"):
            for row in self.rows_with(name):
                self.assertTrue(self.is_right(row), row)
        for name in NO_NAMES:
            for row in self.rows_with(name):
                self.assertFalse(self.is_right(row), row)

    def test_numbers_at_their_bounds(self):
        for row, least, most in NUMBERS:
            for number in (least, most, 0, 1, 10, 100, 999):
                self.assertTrue(self.is_right(row.replace("{}", str(number))), (row, number))
            for number in (least - 1, most + 1, 10 * most, -10 * most, 10 ** 150):
                self.assertFalse(self.is_right(row.replace("{}", str(number))), (row, number))
        for row in ("join a b -1", "weigh a -1", "join a b -10", f"weigh a {1 - FAR}"):
            self.assertTrue(self.is_right(row))
        for row in ("take -1", "then -1 a b"):
            self.assertFalse(self.is_right(row))

    def test_what_is_no_number(self):
        for row, least, most in NUMBERS:
            for word in NO_NUMBERS:
                self.assertFalse(self.is_right(row.replace("{}", word)), (row, word))

    def test_rules(self):
        for rule in RULES:
            self.assertTrue(self.is_right(f"leader a {rule}"))
        for rule in ("", "Least", "most", "least ", "leas", "lastt", "0", "-"):
            self.assertFalse(self.is_right(f"leader a {rule}"))

    def test_the_first_wrong_row_is_told_all_rows_counted(self):
        self.assertEqual(self.bad_row("turn 1\n\nname a\n\nname A\nname B\n"), 4)
        self.assertEqual(self.bad_row("\nturn 1\n \nname A"), 2)
        self.assertEqual(self.bad_row("turn 1\nname a\n" + "\n" * 50 + "wrong"), 52)

    def test_it_is_refused_ahead_of_all_answers(self):
        rows = ["name a"] * 5 + ["take 7"] * 5 + ["drop"]
        self.assertEqual(self.bad_row("turn 1\n" + "\n".join(rows)), 11)


class Deeds(unittest.TestCase):
    def test_name_and_drop(self):
        told = answers("name a", "name a", "name b", "drop a", "drop a", "name a", "classes", "drop x")
        self.assertEqual(told, ["done", "refused", "done", "-", "refused", "done", "a / b", "refused"])

    def test_drop_tells_the_numbers(self):
        told = answers("name a", "name b", "join a b 0", "join b b 0", "join a a 0", "drop a", "holding", "drop b")
        self.assertEqual(told[5:], ["0 2", "-", "1"])

    def test_join(self):
        told = answers("name a", "name b", "name c", "join a b 1", "join c b -2", "join a c 3", "join a c 4",
                       "join c a 3", "join a a 0", "join a a 1", "join a x 1", "join x a 1", "join a b 1")
        wanted = ["joined 0", "joined 1", "known 2", "clash 0+ 1-", "clash 1+ 0-", "known 3", "clash here", "refused",
                  "refused", "known 4"]
        self.assertEqual(told[3:], wanted)

    def test_take(self):
        told = answers("name c", "name b", "name a", "join b a 1", "join b c 1", "join a c 0", "join c c 0", "take 3",
                       "take 0", "take 0", "take 1", "take 9", "take 2", f"take {FAR}")
        wanted = ["spare", "held 2", "refused", "parted b / a c", "refused", "parted a / c", "refused"]
        self.assertEqual(told[7:], wanted)

    def test_weigh_and_sum(self):
        told = answers("weigh a 3", "name a", "sum a", "weigh a -3", "name b", f"weigh b {FAR}", "join a b 0", "sum a",
                       "sum b", "weigh b 0", "sum b", "sum c")
        wanted = ["refused", "done", "0", "done", "done", "done", "joined 0", str(FAR - 3), str(FAR - 3), "done", "-3",
                  "refused"]
        self.assertEqual(told, wanted)

    def test_a_dropped_name_s_weight_is_forgotten(self):
        told = answers("name a", "weigh a 5", "drop a", "sum a", "weigh a 2", "name a", "sum a", "weigh a 4", "sum a")
        self.assertEqual(told[3:], ["refused", "refused", "done", "0", "done", "4"])


class Asks(unittest.TestCase):
    ROWS = ("name d", "name c", "name b", "name a", "join a b 1", "join b c 1", "join c a -2")

    def asked(self, *rows):
        return answers(*self.ROWS, *rows)[len(self.ROWS):]

    def test_with_and_steps(self):
        told = self.asked("with a c", "with a d", "with d d", "with a x", "with x a", "with x x")
        self.assertEqual(told, ["yes", "no", "yes", "refused", "refused", "refused"])
        told = self.asked("steps a c", "steps c a", "steps a d", "steps d d", "steps a x", "steps x d")
        self.assertEqual(told, ["2", "-2", "no", "0", "refused", "refused"])

    def test_way_and_few(self):
        told = self.asked("way a c", "way c a", "way a d", "way d d", "way a x", "way x a")
        self.assertEqual(told, ["0+ 1+", "1- 0-", "no", "here", "refused", "refused"])
        told = self.asked("few a c", "few c a", "few a d", "few d d", "few a x", "few x a")
        self.assertEqual(told, ["2-", "2+", "no", "here", "refused", "refused"])

    def test_class_classes_and_holding(self):
        self.assertEqual(self.asked("class b", "class d", "class x"), ["a b c", "d", "refused"])
        self.assertEqual(self.asked("classes", "holding", "take 0", "holding"), ["a b c / d", "0 1", "held 2", "1 2"])
        self.assertEqual(answers("classes", "holding", "name a", "classes", "holding"), ["-", "-", "done", "a", "-"])

    def test_leader(self):
        rules = [f"leader b {rule}" for rule in RULES]
        self.assertEqual(self.asked(*rules), ["a", "c", "c", "a", "a"])
        told = self.asked("weigh b 1", "join c c 0", *rules, "leader d heavy", "leader x least")
        self.assertEqual(told[2:], ["a", "c", "c", "b", "c", "d", "refused"])
        self.assertEqual(self.asked("weigh a -1", "leader c heavy")[1], "b")

    def test_first_is_the_one_that_came_first_of_those_that_are_there(self):
        told = self.asked("drop c", "leader a first", "name c", "join c a 0", "leader a first", "drop b", "leader a first",
                          "name b", "join b c 0", "leader b first", "take 3", "leader c first")
        self.assertEqual([told[at] for at in (1, 4, 6, 9, 11)], ["b", "b", "a", "a", "c"])

    def test_times(self):
        self.assertEqual(self.asked("times a b", "times b c", "times d d", "times a d", "times x x", "times a x"),
                         ["5-7", "6-7", "1-7", "-", "-", "-"])
        told = self.asked("take 0", "take 2", "times a b", "times a c", "join a c 0", "drop c", "times a c", "name c",
                          "times a c", "join c a 9", "times c a", "times c c")
        self.assertEqual([told[at] for at in (2, 3, 6, 8, 10, 11)],
                         ["5-8", "6-8", "6-8 10-10", "6-8 10-10", "6-8 10-10 13-13", "2-10 12-13"])

    def test_then(self):
        told = self.asked("then 4 a b", "then 5 a b", "then 7 b a", "then 8 a b", f"then {FAR} x x", "then 0 a a",
                          "then 3 a a", "then 4 a a", "then 7 x x", "then 7 a x", "drop a", "then 7 a b", "then 8 a a",
                          "then 8 d d", "then 9 d d")
        wanted = ["no", "yes", "yes", "no moment", "no moment", "no", "no", "yes", "no", "no", "0 2", "yes", "no", "yes",
                  "no moment"]
        self.assertEqual(told, wanted)

    def test_moments_are_those_of_deeds_that_are_done(self):
        told = self.asked("weigh a 1", "join a b 7", "name a", "take 9", "drop x", "classes", "then 8 a a", "name x",
                          "then 8 a a", "then 9 a a")
        self.assertEqual(told[6:], ["no moment", "done", "yes", "no moment"])


class Shadow:
    """A mesh to which a text's deeds are done, with weights beside it; it answers as the document tells."""

    def __init__(self, turn):
        self.mesh, self.weights, self.order = Mesh([], turn), {}, []

    def answer(self, row):
        word, *things = [int(part) if part.lstrip("-").isdigit() else part for part in row.split(" ")]
        told = told_or_refused(getattr(self, "on_" + word), *things)
        return "refused" if told in ("NoName", "NoJoin", "BadName") else told

    def way(self, way):
        if way is None:
            return "no"
        return " ".join(str(n) + {1: "+", -1: "-"}[side] for n, side in way) or "here"

    def group(self, names):
        return " ".join(map(str, names)) or "-"

    def on_name(self, name):
        self.mesh.put_name(name)
        self.weights[name] = 0
        self.order.append(name)
        return "done"

    def on_drop(self, name):
        numbers = self.mesh.drop_name(name)
        self.order.remove(name)
        return self.group(numbers)

    def on_join(self, one, other, step):
        word, what = self.mesh.join(one, other, step)
        return word + " " + (self.way(what) if word == "clash" else str(what))

    def on_take(self, n):
        word, *things = self.mesh.take(n)
        if word == "parted":
            return "parted " + self.group(things[0]) + " / " + self.group(things[1])
        return " ".join([word] + [str(k) for k in things])

    def on_weigh(self, name, n):
        self.mesh.class_of(name)
        self.weights[name] = n
        return "done"

    def on_with(self, one, other):
        return {True: "yes", False: "no"}[self.mesh.together(one, other)]

    def on_steps(self, one, other):
        steps = self.mesh.steps(one, other)
        return {None: "no"}.get(steps, str(steps))

    def on_way(self, one, other):
        return self.way(self.mesh.way(one, other))

    def on_few(self, one, other):
        return self.way(self.mesh.few_way(one, other))

    def on_class(self, name):
        return self.group(self.mesh.class_of(name))

    def on_classes(self):
        return " / ".join(map(self.group, self.mesh.all_classes())) or "-"

    def on_holding(self):
        return self.group(self.mesh.holding())

    def on_sum(self, name):
        return str(sum(self.weights[member] for member in self.mesh.class_of(name)))

    def on_leader(self, name, rule):
        ends = [end for row in self.mesh.standing() for end in row[1:3]]
        keys = {
            "least": lambda member: member, "first": self.order.index,
            "last": lambda member: [-ord(sign) for sign in member],
            "heavy": lambda member: (-self.weights[member], member), "busy": lambda member: (-ends.count(member), member),
        }
        return sorted(self.mesh.class_of(name), key=keys[rule])[0]

    def on_times(self, one, other):
        return " ".join(f"{first}-{last}" for first, last in self.mesh.times_together(one, other)) or "-"

    def on_then(self, then, one, other):
        past = told_or_refused(self.mesh.at, then)
        if past == "NoMoment":
            return "no moment"
        return "yes" if told_or_refused(past.together, one, other) is True else "no"


def chance_row(chance, shadow, pool):
    """A row of the document's words, of names that are there or not, and of numbers near those that stand."""
    there = shadow.mesh.names_now()
    name, other = chance.choice(pool), chance.choice(there + pool[:2])
    words = ("join",) * 8 + ("name",) * 4 + ("take",) * 2 + ("weigh",) * 2 + tuple(RIGHT)
    word = chance.choice(words)
    numbers = [row[0] for row in shadow.mesh.standing()]
    moment = chance.randrange(shadow.mesh.moment() + 3)
    rows = {
        "join": f"join {name} {other} {chance.choice((0, 0, 0, 1, 5, -5, FAR))}",
        "take": f"take {chance.choice(numbers + [0, 99])}",
        "weigh": f"weigh {other} {chance.choice((0, 3, -3, FAR, -FAR))}",
        "leader": f"leader {other} {chance.choice(RULES)}",
        "then": f"then {moment} {name} {other}",
        "classes": "classes", "holding": "holding",
    }
    if word in ("name", "drop", "class", "sum"):
        return f"{word} {name}"
    return rows.get(word, f"{word} {name} {other}")


class SetAgainstAMesh(unittest.TestCase):
    def test_desks_of_two_hundred_rows(self):
        chance, told = random.Random(1), []
        for turn in (0, 1, 2, 5, 1000, 0, 5):
            shadow, rows, wanted = Shadow(turn), [f"turn {turn}"], []
            while len(rows) < 200:
                rows.append(chance_row(chance, shadow, ["b", "a", "d", "c", "f", "e"]))
                wanted.append(shadow.answer(rows[-1]))
            self.assertEqual(run("\n".join(rows)), wanted)
            told += [answer.split(" ")[0] for answer in wanted]
        for word in ("done", "joined", "known", "clash", "spare", "held", "parted", "yes", "no", "here", "refused", "-"):
            self.assertGreater(told.count(word), 3, word)


class HandedInAndTold(unittest.TestCase):
    TEXT = "turn 3\nname a\nname b\njoin a b 1\nclasses\nholding\nleader a first\n"

    def test_told_things_are_the_asker_s_own(self):
        check_told_is_own(self, lambda: run(self.TEXT))
        told = run(self.TEXT)
        self.assertIs(told.__class__, list)
        self.assertEqual({answer.__class__ for answer in told}, {str})

    def test_each_desk_begins_anew(self):
        self.assertEqual(run(self.TEXT), run(self.TEXT))
        self.assertEqual(run("turn 0\nclasses"), ["-"])


if __name__ == "__main__":
    unittest.main()
