"""2.3: peeled webs, and 0.2 as far as it speaks of them."""

import random
import unittest
from itertools import permutations, product

from ringfell.woods import peel_right, peeled_web
from tests.helpers import (FAR, bare, circle, drawn_wood, joined, large_webs, looped, plain_clears, plain_form,
                           plain_order, plain_ring, plain_web, renamed, small_webs, soon, three_tied, whole_web)


class Peeled(unittest.TestCase):
    def held(self, web):
        told = peeled_web(web)
        self.assertIs(type(told), tuple)
        self.assertEqual(len(told), 2)
        if plain_clears(web, ()):
            self.assertEqual(told[0], "wood")
            self.assertIs(type(told[1]), list)
            self.assertTrue(plain_order(web, told[1]))
        else:
            self.assertEqual(told[0], "ring")
            self.assertIs(type(told[1]), tuple)
            self.assertTrue(plain_ring(web, told[1]))
            self.assertEqual(told[1], plain_form(told[1]))
        self.assertEqual(peeled_web(web), told)

    def test_small_webs(self):
        for web in small_webs(71, 400):
            self.held(web)

    def test_large_webs(self):
        for web in large_webs(72):
            with soon():
                self.held(web)

    def test_woods_and_nearly_woods(self):
        rng = random.Random(73)
        for k in range(40):
            wood = renamed(rng, drawn_wood(rng, rng.randrange(1, 41)))
            self.held(wood)
            one, other = rng.randrange(wood[0]), rng.randrange(wood[0])
            self.held(plain_web(wood[0], wood[1] + ((one, other),)))
            if wood[1]:
                self.held(plain_web(wood[0], wood[1] + (rng.choice(wood[1]),)))

    def test_edges(self):
        self.assertEqual(peeled_web(bare(0)), ("wood", []))
        self.assertEqual(peeled_web(bare(1)), ("wood", [0]))
        self.assertEqual(peeled_web(looped()), ("ring", (0,)))
        self.assertEqual(peeled_web(plain_web(2, [(0, 1)] * 2)), ("ring", (0, 1)))
        self.assertEqual(peeled_web(circle(40)), ("ring", tuple(range(40))))
        for web, length in three_tied():
            self.held(web)

    def test_rings_with_tails(self):
        self.assertEqual(peeled_web(plain_web(6, [(0, 1), (1, 2), (2, 3), (3, 4), (4, 2), (4, 5)])), ("ring", (2, 3, 4)))
        self.assertEqual(peeled_web(plain_web(4, [(0, 1), (1, 2), (2, 3), (3, 3)])), ("ring", (3,)))

    def test_told_lists_are_the_askers_own(self):
        web = plain_web(3, [(0, 1), (1, 2)])
        told = peeled_web(web)
        kept = list(told[1])
        told[1].append(7)
        told[1][0] = None
        self.assertEqual(peeled_web(web), ("wood", kept))


class Right(unittest.TestCase):
    def test_every_order_of_small_webs(self):
        for web in small_webs(74, 60, 5):
            for order in permutations(range(web[0])):
                wanted = plain_order(web, order)
                self.assertIs(peel_right(web, order), wanted)
                self.assertIs(peel_right(web, list(order)), wanted)

    def test_every_row_of_numbers(self):
        for web in (bare(2), plain_web(2, [(0, 1)]), plain_web(3, [(0, 1), (1, 2)])):
            for size in range(5):
                for row in product((-1, 0, 1, 2, 3), repeat=size):
                    self.assertIs(peel_right(web, list(row)), plain_order(web, row))

    def test_wrong_orders(self):
        web = plain_web(4, [(0, 1), (1, 2), (2, 3)])
        self.assertIs(peel_right(web, [0, 1, 2, 3]), True)
        self.assertIs(peel_right(web, (3, 0, 2, 1)), True)
        for order in ([], [0, 1, 2], [1, 2, 3], [0, 1, 2, 2], [0, 1, 2, 3, 3], [0, 1, 2, 3, 4], [0, 1, 2, 4],
                      [-1, 0, 1, 2, 3], [0, 1, 2, -1], [0, 1, 2, FAR], [0, 1, 2, -FAR], [1, 0, 2, 3], [2, 3, 1, 0]):
            self.assertIs(peel_right(web, order), False)
            self.assertIs(peel_right(web, tuple(order)), False)

    def test_no_places(self):
        for row in ([], ()):
            self.assertIs(peel_right(bare(0), row), True)
            self.assertIs(peel_right(bare(1), row), False)
        self.assertIs(peel_right(bare(0), [0]), False)

    def test_webs_with_rings_have_no_right_order(self):
        for web in (looped(), plain_web(2, [(0, 1)] * 2), circle(5), whole_web(5), joined(bare(2), looped())):
            for order in permutations(range(web[0])):
                self.assertIs(peel_right(web, order), False)

    def test_large_webs(self):
        rng = random.Random(75)
        for k in range(20):
            wood = renamed(rng, drawn_wood(rng, 40))
            order = peeled_web(wood)[1]
            self.assertIs(peel_right(wood, order), True)
            for j in range(20):
                one, other = rng.sample(range(40), 2)
                order[one], order[other] = order[other], order[one]
                kept = list(order)
                self.assertIs(peel_right(wood, order), plain_order(wood, order))
                self.assertEqual(order, kept)

    def test_arguments_by_their_names(self):
        self.assertIs(peel_right(order=[1, 0], web=bare(2)), True)
        self.assertEqual(peeled_web(web=bare(1)), ("wood", [0]))


if __name__ == "__main__":
    unittest.main()
