"""[15], [2]: the four sorts of defaults and their values."""

import unittest

from callbinds.defaults import Anew, Default, Once, Sum, Told

GREAT = 10 ** 60 - 1


class Defaults(unittest.TestCase):
    def test_each_is_a_default_of_its_own_class(self):
        classes = [Told, Once, Anew, Sum]
        for kind, made in zip(classes, [Told(4), Once(), Anew(), Sum(0, 2, -3)]):
            self.assertIsInstance(made, Default)
            self.assertIs(type(made), kind)
            for other in classes:
                self.assertIs(isinstance(made, other), other is kind)

    def test_none_stands_under_another_one(self):
        for kind in [Told, Once, Anew, Sum]:
            self.assertEqual(kind.__bases__, (Default,))

    def test_told(self):
        for number in [0, 1, -1, 77, GREAT, -GREAT]:
            self.assertEqual(Told(number).number, number)
            self.assertIs(type(Told(number).number), int)

    def test_sum(self):
        for at, times, plus in [(0, 0, 0), (3, -9, 5), (23, 9, -GREAT), (1, 1, GREAT), (-1, 2, 3), (24, 2, 3)]:
            made = Sum(at, times, plus)
            self.assertEqual((made.at, made.times, made.plus), (at, times, plus))

    def test_two_have_nothing_to_do_with_one_another(self):
        one, other = Told(1), Told(2)
        self.assertEqual((one.number, other.number), (1, 2))
        one, other = Sum(0, 1, 2), Sum(3, 4, 5)
        self.assertEqual((one.at, one.times, one.plus, other.at, other.times, other.plus), (0, 1, 2, 3, 4, 5))


if __name__ == "__main__":
    unittest.main()
