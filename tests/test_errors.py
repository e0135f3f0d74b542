import unittest

from firetree.errors import BadPlan, BadTree, FireError, NoText, NoThing

REFUSALS = [BadTree, NoThing, BadPlan, NoText]


class ErrorClasses(unittest.TestCase):
    def test_fire_error_is_straight_under_value_error(self):
        self.assertEqual(FireError.__bases__, (ValueError,))

    def test_each_refusal_is_straight_under_fire_error(self):
        for refusal in REFUSALS:
            with self.subTest(refusal=refusal.__name__):
                self.assertEqual(refusal.__bases__, (FireError,))

    def test_names(self):
        names = [refusal.__name__ for refusal in [FireError] + REFUSALS]
        self.assertEqual(names, ["FireError", "BadTree", "NoThing", "BadPlan", "NoText"])

    def test_no_refusal_is_another(self):
        for one in REFUSALS:
            for other in REFUSALS:
                with self.subTest(one=one.__name__, other=other.__name__):
                    self.assertEqual(issubclass(one, other), REFUSALS.index(one) == REFUSALS.index(other))

    def test_each_can_be_raised_and_taken_as_any_refusal(self):
        for refusal in REFUSALS:
            for taken in [refusal, FireError, ValueError]:
                with self.subTest(refusal=refusal.__name__, taken=taken.__name__):
                    with self.assertRaises(taken):
                        raise refusal("words")


if __name__ == "__main__":
    unittest.main()
