"""[14], [2]: wells."""

import unittest

from callbinds.wells import Well


class Wells(unittest.TestCase):
    def test_made_of_none_it_begins_with_1(self):
        well = Well()
        self.assertEqual([well.draw() for turn in range(5)], [1, 2, 3, 4, 5])

    def test_made_of_a_number(self):
        for first in [0, 1, 7, -3, -1]:
            well = Well(first)
            self.assertEqual([well.draw() for turn in range(5)], [first + k for k in range(5)])

    def test_made_by_the_name_first(self):
        self.assertEqual(Well(first=41).draw(), 41)
        self.assertEqual(Well(first=0).ahead(), 0)

    def test_ahead_gives_nothing(self):
        well = Well(9)
        self.assertEqual([well.ahead() for turn in range(3)], [9, 9, 9])
        self.assertEqual(well.draw(), 9)
        self.assertEqual([well.ahead(), well.ahead()], [10, 10])
        self.assertEqual([well.draw(), well.draw(), well.ahead(), well.draw()], [10, 11, 12, 12])
        self.assertEqual(well.ahead(), 13)

    def test_ahead_ahead_of_all(self):
        self.assertEqual(Well().ahead(), 1)
        self.assertEqual(Well(-5).ahead(), -5)

    def test_two_wells_have_nothing_to_do_with_one_another(self):
        one, other, third = Well(), Well(), Well(100)
        self.assertEqual([one.draw(), one.draw(), other.draw(), third.draw(), one.draw(), other.ahead()],
                         [1, 2, 1, 100, 3, 2])
        self.assertEqual([one.ahead(), other.ahead(), third.ahead(), Well().ahead()], [4, 2, 101, 1])

    def test_sixty_figures(self):
        great = 10 ** 60 - 1
        well = Well(great)
        self.assertEqual([well.ahead(), well.draw(), well.draw()], [great, great, 10 ** 60])
        well = Well(-great)
        self.assertEqual([well.draw(), well.draw(), well.ahead()], [-great, -great + 1, -great + 2])

    def test_kinds(self):
        well = Well()
        self.assertIs(type(well.ahead()), int)
        self.assertIs(type(well.draw()), int)

    def test_long(self):
        well = Well(-1000)
        self.assertEqual([well.draw() for turn in range(2000)], list(range(-1000, 1000)))


if __name__ == "__main__":
    unittest.main()
