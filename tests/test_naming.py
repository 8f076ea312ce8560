import unittest

from joinback.errors import BadName, NoName
from joinback.naming import check_names, check_new, check_there, is_name


class IsName(unittest.TestCase):
    def test_names(self):
        for text in ("a", "z", "m", "az", "abcdefgh", "zzzzzzzz", "qqqqqqq"):
            with self.subTest(text=text):
                self.assertIs(is_name(text), True)

    def test_every_letter(self):
        for at in range(26):
            self.assertIs(is_name("x" + chr(97 + at)), True)

    def test_length(self):
        for length in range(0, 20):
            self.assertIs(is_name("k" * length), 1 <= length <= 8)

    def test_every_other_sign_is_out_at_every_place(self):
        others = [chr(code) for code in range(0, 300) if not 97 <= code <= 122]
        for sign in others + ["\u00e9", "\u0131", "\u017f", "\uff41", "\u0430", "\U0001d41a"]:
            for text in (sign, sign + "a", "a" + sign, "a" + sign + "b"):
                with self.subTest(text=text):
                    self.assertIs(is_name(text), False)

    def test_things_of_other_kinds(self):
        for thing in (None, True, False, 0, 7, b"abc", ["a"], ("a",), {"a": 1}, [], ()):
            with self.subTest(thing=thing):
                self.assertIs(is_name(thing), False)


class Checks(unittest.TestCase):
    def test_a_list_is_refused_at_its_first_wrong_place(self):
        for things, place in ((["a", "B", "a"], 1), (["a", "b", "a", 7], 2), ([[], []], 0), (("a", "a"), 1)):
            with self.assertRaises(BadName) as told:
                check_names(things)
            self.assertEqual(told.exception.place, place)

    def test_right_ones_are_not_refused(self):
        self.assertIsNone(check_names([]))
        self.assertIsNone(check_names(("b", "a", "ab")))
        self.assertIsNone(check_new(["a"], "b", 0))
        self.assertIsNone(check_there(["a"], "a"))

    def test_a_name_that_is_there_or_is_not(self):
        with self.assertRaises(BadName) as told:
            check_new(["a"], "a", 5)
        self.assertEqual(told.exception.place, 5)
        with self.assertRaises(NoName):
            check_there(["ab"], "a")


if __name__ == "__main__":
    unittest.main()
