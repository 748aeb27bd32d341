import unittest

from viewwood.errors import NoBox, NoChange, NoDeed, NoRow, NoText, ViewError

REFUSALS = (NoText, NoBox, NoDeed, NoChange, NoRow)
ADDRESS = (((None, 0), (7, 1)), ((-2, 3),))


class TestClasses(unittest.TestCase):
    def test_base_is_a_value_error(self):
        self.assertEqual(ViewError.__bases__, (ValueError,))

    def test_each_stands_right_under_the_base(self):
        for refusal in REFUSALS:
            self.assertEqual(refusal.__bases__, (ViewError,), refusal)

    def test_none_stands_under_another(self):
        for one in REFUSALS:
            for other in REFUSALS:
                self.assertEqual(issubclass(one, other), one == other, (one, other))

    def test_base_is_raised_and_taken(self):
        with self.assertRaises(ValueError):
            raise ViewError("a refusal")


class TestFields(unittest.TestCase):
    def test_no_text_keeps_line_and_word_in_this_order(self):
        with self.assertRaises(NoText) as told:
            raise NoText(3, 14)
        self.assertEqual((told.exception.line, told.exception.word), (3, 14))

    def test_no_text_of_nothing(self):
        self.assertEqual((NoText(0, 0).line, NoText(0, 0).word), (0, 0))

    def test_no_box_keeps_its_address(self):
        with self.assertRaises(NoBox) as told:
            raise NoBox(ADDRESS)
        self.assertEqual(told.exception.address, ADDRESS)

    def test_no_box_of_the_empty_address(self):
        self.assertEqual(NoBox(()).address, ())

    def test_no_deed_keeps_its_place(self):
        with self.assertRaises(NoDeed) as told:
            raise NoDeed(9)
        self.assertEqual(told.exception.place, 9)

    def test_no_deed_of_the_first_place(self):
        self.assertEqual(NoDeed(0).place, 0)

    def test_two_errors_keep_fields_of_their_own(self):
        first, second = NoText(1, 2), NoText(3, 4)
        self.assertEqual((first.line, first.word, second.line, second.word), (1, 2, 3, 4))

    def test_no_change_and_no_row_are_made_of_a_text(self):
        for refusal in (NoChange, NoRow):
            with self.assertRaises(refusal) as told:
                raise refusal("no such thing")
            self.assertIn("no such thing", str(told.exception))

    def test_each_is_taken_as_the_base(self):
        for error in (NoText(1, 2), NoBox(ADDRESS), NoDeed(3), NoChange("x"), NoRow("x")):
            with self.assertRaises(ViewError):
                raise error


if __name__ == "__main__":
    unittest.main()
