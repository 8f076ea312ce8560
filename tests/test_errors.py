import unittest

from joinback import errors
from joinback.errors import BadName, BadRow, Clash, JoinError, NoJoin, NoMoment, NoName

REFUSALS = (BadName, BadRow, Clash, NoName, NoJoin, NoMoment)


class ErrorClasses(unittest.TestCase):
    def test_all_of_them_are_known_here(self):
        found = [
            thing
            for thing in vars(errors).values()
            if isinstance(thing, type) and issubclass(thing, JoinError)
        ]
        self.assertEqual(set(found), set(REFUSALS) | {JoinError})

    def test_join_error_stands_straight_under_value_error(self):
        self.assertEqual(JoinError.__bases__, (ValueError,))

    def test_each_stands_straight_under_join_error(self):
        for refusal in REFUSALS:
            with self.subTest(refusal=refusal.__name__):
                self.assertEqual(refusal.__bases__, (JoinError,))

    def test_none_stands_under_another_one(self):
        for refusal in REFUSALS:
            for other in REFUSALS:
                if refusal is not other:
                    self.assertFalse(issubclass(refusal, other))


class ErrorFields(unittest.TestCase):
    def test_bad_name_is_made_with_its_place(self):
        for place in (0, 39):
            self.assertEqual(BadName(place).place, place)

    def test_bad_row_is_made_with_its_row(self):
        for row in (0, 199):
            self.assertEqual(BadRow(row).row, row)

    def test_clash_is_made_with_its_ring(self):
        pair = ("a", ((0, 1), (1, -1)))
        self.assertEqual(Clash(pair).ring, pair)

    def test_the_others_are_made_with_words(self):
        for refusal in (NoName, NoJoin, NoMoment):
            with self.subTest(refusal=refusal.__name__):
                self.assertEqual(str(refusal("why it is so")), "why it is so")

    def test_fields_are_each_object_s_own(self):
        first, second = BadName(1), BadName(2)
        self.assertEqual((first.place, second.place), (1, 2))

    def test_each_can_be_raised_and_taken_as_its_bases(self):
        made = (BadName(1), BadRow(2), Clash(("a", ((0, 1),))), NoName("w"), NoJoin("w"), NoMoment("w"))
        for error in made:
            for taken in (error.__class__, JoinError, ValueError):
                with self.assertRaises(taken):
                    raise error


if __name__ == "__main__":
    unittest.main()
