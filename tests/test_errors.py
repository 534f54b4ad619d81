import unittest

from lessonwright import errors


class Errors(unittest.TestCase):
    def test_learn_fault_is_a_value_error(self):
        self.assertEqual(errors.LearnFault.__bases__, (ValueError,))

    def test_each_stands_under_learn_fault(self):
        names = ("BadWord", "BadMachine", "BadFormula", "BadExample", "BadPaper", "BadSize", "BadText", "BadStore",
                 "NoSuch")
        for name in names:
            with self.subTest(name):
                self.assertEqual(getattr(errors, name).__bases__, (errors.LearnFault,))

    def test_each_is_raised_and_caught_by_name(self):
        with self.assertRaises(errors.LearnFault) as caught:
            raise errors.BadPaper("torn")
        self.assertEqual(str(caught.exception), "torn")
        self.assertNotIsInstance(caught.exception, errors.BadSize)


if __name__ == "__main__":
    unittest.main()
