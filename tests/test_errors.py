import unittest

from springframe import errors

PLAIN = ("NoPart", "NoWish", "Mixed", "NoRank", "TooMany", "NoPaper", "NoName", "Taken",
         "NoPane", "Named", "NoSuch", "NoSize", "NoLine")
WITH_FIELDS = ("Clash", "Stuck")


class TestClasses(unittest.TestCase):
    def test_frame_error_is_a_value_error(self):
        self.assertEqual(errors.FrameError.__bases__, (ValueError,))

    def test_each_refusal_is_straight_under_frame_error(self):
        for name in PLAIN + WITH_FIELDS:
            with self.subTest(name):
                refusal = getattr(errors, name)
                self.assertEqual(refusal.__bases__, (errors.FrameError,))
                self.assertTrue(issubclass(refusal, ValueError))

    def test_there_are_just_fifteen_refusals(self):
        found = sorted(refusal.__name__ for refusal in errors.FrameError.__subclasses__())
        self.assertEqual(found, sorted(PLAIN + WITH_FIELDS))

    def test_no_refusal_is_taken_for_another(self):
        for name in PLAIN + WITH_FIELDS:
            self.assertEqual(getattr(errors, name).__subclasses__(), [])

    def test_plain_refusals_are_raised_with_and_without_words(self):
        for name in PLAIN:
            with self.subTest(name):
                refusal = getattr(errors, name)
                with self.assertRaises(errors.FrameError):
                    raise refusal()
                with self.assertRaises(refusal) as caught:
                    raise refusal("words")
                self.assertEqual(vars(caught.exception), {})


class TestFields(unittest.TestCase):
    def test_clash_has_its_fields_in_order(self):
        clash = errors.Clash([0, 2], [(1, 2), (-1, 3)])
        self.assertEqual(vars(clash), {"numbers": [0, 2], "weights": [(1, 2), (-1, 3)]})

    def test_stuck_has_its_fields_in_order(self):
        stuck = errors.Stuck("down", [4], [(1, 5)])
        self.assertEqual(vars(stuck), {"direction": "down", "numbers": [4], "weights": [(1, 5)]})

    def test_they_are_raised_and_taken_as_value_errors(self):
        for refusal in (errors.Clash([1], [(1, 1)]), errors.Stuck("across", [1], [(1, 1)])):
            with self.assertRaises(ValueError) as caught:
                raise refusal
            self.assertEqual(caught.exception.numbers, [1])
            self.assertEqual(caught.exception.weights, [(1, 1)])

    def test_they_are_not_made_without_their_fields(self):
        for refusal, fields in ((errors.Clash, ([1],)), (errors.Stuck, ([1], [(1, 1)]))):
            with self.assertRaises(TypeError):
                refusal(*fields)

    def test_changing_the_lists_handed_in_changes_no_field(self):
        numbers = [0, 1]
        weights = [(1, 1), (2, 1)]
        refusals = (errors.Clash(numbers, weights), errors.Stuck("across", numbers, weights))
        numbers.append(7)
        weights.clear()
        for refusal in refusals:
            self.assertEqual(refusal.numbers, [0, 1])
            self.assertEqual(refusal.weights, [(1, 1), (2, 1)])
            self.assertNotIn("7", str(refusal))

    def test_changing_the_fields_changes_no_list_handed_in(self):
        numbers = [0, 1]
        weights = [(1, 1), (2, 1)]
        for refusal in (errors.Clash(numbers, weights), errors.Stuck("across", numbers, weights)):
            refusal.numbers.append(7)
            refusal.weights.clear()
        self.assertEqual(numbers, [0, 1])
        self.assertEqual(weights, [(1, 1), (2, 1)])


if __name__ == "__main__":
    unittest.main()
