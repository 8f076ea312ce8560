import unittest

from joinback.naming import is_name


class IsName(unittest.TestCase):
    def test_names(self):
        for text in ("a", "z", "m", "az", "abcdefgh", "zzzzzzzz", "qqqqqqq"):
            with self.subTest(text=text):
                self.assertIs(is_name(text), True)

    def test_every_letter(self):
        for at in range(26):
            self.assertIs(is_name("x" + chr(97 + at)), True)

    def test_length(self):
        for length in range(0, 20):
            self.assertIs(is_name("k" * length), 1 <= length <= 8)

    def test_every_other_sign_is_out_at_every_place(self):
        others = [chr(code) for code in range(0, 300) if not 97 <= code <= 122]
        for sign in others + ["\u00e9", "\u0131", "\u017f", "\uff41", "\u0430", "\U0001d41a"]:
            for text in (sign, sign + "a", "a" + sign, "a" + sign + "b"):
                with self.subTest(text=text):
                    self.assertIs(is_name(text), False)

    def test_things_of_other_kinds(self):
        for thing in (None, True, False, 0, 7, b"abc", ["a"], ("a",), {"a": 1}, [], ()):
            with self.subTest(thing=thing):
                self.assertIs(is_name(thing), False)


if __name__ == "__main__":
    unittest.main()
