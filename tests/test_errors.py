import unittest

from leaffold import errors

REFUSALS = ("NoSheet", "NoFold", "NoPlace", "Ajar", "Severed", "Bolted", "Loose", "NoWord")


class Refusals(unittest.TestCase):
    def test_any_refusal_is_a_value_error(self):
        self.assertEqual(errors.LeafError.__bases__, (ValueError,))

    def test_each_stands_straight_under_leaf_error(self):
        for name in REFUSALS:
            with self.subTest(name=name):
                self.assertEqual(getattr(errors, name).__bases__, (errors.LeafError,))
                self.assertEqual(getattr(errors, name).__name__, name)

    def test_none_is_of_another_class_of_refusals(self):
        for name in REFUSALS:
            for other in REFUSALS:
                with self.subTest(name=name, other=other):
                    self.assertEqual(issubclass(getattr(errors, name), getattr(errors, other)), name == other)

    def test_each_is_raised_and_taken_by_name(self):
        for name in REFUSALS:
            for taken in (getattr(errors, name), errors.LeafError, ValueError):
                with self.subTest(name=name, taken=taken), self.assertRaises(taken):
                    raise getattr(errors, name)("words")


if __name__ == "__main__":
    unittest.main()
