import unittest

from toldsums.errors import NoAsk, NoPlace, NoRest, NoStretch, NoText, SumError

REFUSALS = (NoText, NoStretch, NoRest, NoPlace, NoAsk)


class Errors(unittest.TestCase):
    def test_each_is_made_of_a_text(self):
        for kind in (SumError,) + REFUSALS:
            with self.subTest(kind=kind):
                self.assertEqual(str(kind("why not")), "why not")
                self.assertEqual(str(kind("")), "")

    def test_each_stands_under_sum_error_and_value_error(self):
        self.assertTrue(issubclass(SumError, ValueError))
        for kind in REFUSALS:
            with self.subTest(kind=kind):
                self.assertTrue(issubclass(kind, SumError))
                self.assertTrue(issubclass(kind, ValueError))
                with self.assertRaises(SumError):
                    raise kind("why not")

    def test_none_stands_under_another(self):
        for kind in REFUSALS:
            for other in REFUSALS:
                with self.subTest(kind=kind, other=other):
                    self.assertEqual(issubclass(kind, other), kind is other)
            self.assertFalse(issubclass(SumError, kind))


if __name__ == "__main__":
    unittest.main()
