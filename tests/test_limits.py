import unittest

from calmlists import limits
from calmlists.limits import LEAST_THINGS, MOST_FULL, MOST_ORDERS, MOST_OUT, MOST_THINGS


class LimitsTest(unittest.TestCase):
    def test_least_things(self):
        self.assertEqual(LEAST_THINGS, 3)

    def test_most_things(self):
        self.assertEqual(MOST_THINGS, 6)

    def test_most_orders(self):
        self.assertEqual(MOST_ORDERS, 48)

    def test_most_out(self):
        self.assertEqual(MOST_OUT, 12)

    def test_most_full(self):
        self.assertEqual(MOST_FULL, 4)

    def test_all_are_integers_and_there_are_no_others(self):
        found = {name: value for name, value in vars(limits).items() if not name.startswith("_")}
        self.assertEqual(sorted(found), ["LEAST_THINGS", "MOST_FULL", "MOST_ORDERS", "MOST_OUT", "MOST_THINGS"])
        self.assertEqual({value.__class__ for value in found.values()}, {int})


if __name__ == "__main__":
    unittest.main()
