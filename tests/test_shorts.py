"""5.2: least webs and short numbers."""

import unittest

from ringfell.shorts import moore_least, short_most
from tests.helpers import three_tied


def plain_least(g):
    if g % 2:
        return 1 + 3 * (2 ** ((g - 1) // 2) - 1)
    return 2 * (2 ** (g // 2) - 1)


class Shorts(unittest.TestCase):
    def test_the_least_web_of_each(self):
        self.assertEqual([moore_least(g) for g in range(1, 9)], [1, 2, 4, 6, 10, 14, 22, 30])
        for g in range(1, 61):
            self.assertEqual(moore_least(g), plain_least(g))

    def test_short_numbers_at_each_least_web(self):
        for g in range(1, 61):
            least = plain_least(g)
            if least <= 10 ** 18:
                self.assertEqual(short_most(least - 1), g - 1)
                self.assertEqual(short_most(least), g)
                self.assertEqual(short_most(least + 1), g if plain_least(g + 1) > least + 1 else g + 1)

    def test_short_numbers_of_few_places(self):
        wanted = [0, 1, 2, 2, 3, 3, 4, 4, 4, 4, 5, 5, 5, 5, 6]
        self.assertEqual([short_most(many) for many in range(15)], wanted)
        for many in range(300):
            self.assertEqual(short_most(many), max([g for g in range(1, 30) if plain_least(g) <= many], default=0))

    def test_great_numbers(self):
        for many in (10 ** 9, 10 ** 18 - 1, 10 ** 18):
            self.assertEqual(short_most(many), max(g for g in range(1, 200) if plain_least(g) <= many))

    def test_webs_with_three_ties_at_each_place(self):
        for web, length in three_tied():
            self.assertEqual(short_most(web[0]), length)

    def test_arguments_by_their_names(self):
        self.assertEqual(moore_least(g=3), 4)
        self.assertEqual(short_most(many=4), 3)


if __name__ == "__main__":
    unittest.main()
