import unittest

from springways.errors import NetError, NoNet, NoPipe, NoPlace, SamePlace, TooMuch

FIVE = (NoPlace, NoPipe, SamePlace, TooMuch, NoNet)


class ErrorsTest(unittest.TestCase):
    def test_a_net_error_is_a_value_error(self):
        self.assertTrue(issubclass(NetError, ValueError))

    def test_each_of_the_five_is_under_net_error(self):
        for error in FIVE:
            self.assertTrue(issubclass(error, NetError), error)
            self.assertTrue(issubclass(error, ValueError), error)
            self.assertIsNot(error, NetError)

    def test_none_of_the_five_is_under_another_one(self):
        for one in FIVE:
            for other in FIVE:
                self.assertEqual(issubclass(one, other), one.__name__ == other.__name__, (one, other))

    def test_each_bears_its_name(self):
        names = [error.__name__ for error in FIVE]
        self.assertEqual(names, ["NoPlace", "NoPipe", "SamePlace", "TooMuch", "NoNet"])


if __name__ == "__main__":
    unittest.main()
