import unittest

from askring.errors import Full, NoDeed, NoName, NoRow, NoTask, RingError

REFUSALS = (NoDeed, Full, NoName, NoTask, NoRow)


class ErrorsTest(unittest.TestCase):
    def test_ring_error_is_a_value_error(self):
        self.assertTrue(issubclass(RingError, ValueError))
        self.assertIsNot(RingError, ValueError)

    def test_each_refusal_stands_under_ring_error(self):
        for refusal in REFUSALS:
            with self.subTest(refusal=refusal.__name__):
                self.assertTrue(issubclass(refusal, RingError))
                self.assertIsNot(refusal, RingError)
                with self.assertRaises(RingError):
                    raise refusal("words")

    def test_no_refusal_stands_under_another_one(self):
        for number, one in enumerate(REFUSALS):
            for other in REFUSALS[:number] + REFUSALS[number + 1:]:
                with self.subTest(one=one.__name__, other=other.__name__):
                    self.assertFalse(issubclass(one, other))

    def test_each_is_called_by_its_own_name(self):
        names = [refusal.__name__ for refusal in (RingError,) + REFUSALS]
        self.assertEqual(names, ["RingError", "NoDeed", "Full", "NoName", "NoTask", "NoRow"])


if __name__ == "__main__":
    unittest.main()
