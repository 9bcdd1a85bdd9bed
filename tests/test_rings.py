"""2.1 and 2.2: rings, and 0.2 as far as it speaks of them."""

import random
import unittest
from itertools import permutations

from ringfell.errors import TooMany
from ringfell.rings import all_rings, is_ring, least_ring, ring_form
from tests.helpers import (FAR, bare, circle, drawn_plain, drawn_web, drawn_wood, joined, large_webs, looped,
                           plain_form, plain_length, plain_ring, plain_rings, plain_web, renamed, small_webs, soon,
                           theta, three_tied, turned, whole_chain, whole_web)


class IsRing(unittest.TestCase):
    def test_every_row_of_small_webs(self):
        for web in small_webs(41, 60, 5):
            for size in range(web[0] + 1):
                for row in permutations(range(web[0]), size):
                    self.assertIs(is_ring(web, row), plain_ring(web, row))

    def test_rings_however_turned(self):
        for web in (circle(3), circle(4), circle(40), whole_web(5), theta(4)):
            for ring in ([tuple(range(web[0]))] if web == circle(web[0]) else plain_rings(web)):
                for row in turned(ring):
                    self.assertIs(is_ring(web, row), True)

    def test_one_place(self):
        self.assertIs(is_ring(looped(), (0,)), True)
        self.assertIs(is_ring((1, ((0, 0), (0, 0))), (0,)), True)
        self.assertIs(is_ring(bare(1), (0,)), False)
        self.assertIs(is_ring((2, ((0, 1), (0, 1))), (0,)), False)

    def test_two_places(self):
        for count in range(5):
            web = (3, ((0, 0),) + ((0, 2),) * count)
            self.assertIs(is_ring(web, (0, 2)), count >= 2)
            self.assertIs(is_ring(web, (2, 0)), count >= 2)
        self.assertIs(is_ring((2, ((0, 0), (0, 0), (1, 1), (1, 1))), (0, 1)), False)

    def test_a_place_twice(self):
        web = joined(whole_web(4), plain_web(2, [(0, 0), (0, 0), (0, 1), (0, 1), (0, 1)]))
        for row in ((4, 4), (4, 4, 4), (0, 0), (0, 1, 0), (0, 1, 2, 0), (0, 1, 0, 1), (4, 5, 4), (4, 5, 4, 5),
                    (0, 1, 2, 1), (0, 1, 2, 0, 1, 2)):
            self.assertIs(is_ring(web, row), False)

    def test_the_empty_tuple(self):
        for web in (bare(0), bare(2), looped(), circle(4)):
            self.assertIs(is_ring(web, ()), False)

    def test_numbers_that_are_no_places(self):
        web = plain_web(4, [(0, 1), (1, 2), (2, 3), (0, 3), (3, 3), (0, 2), (0, 2)])
        for number in (-1, -2, -4, -5, 4, 5, 40, FAR, -FAR):
            self.assertIs(is_ring(web, (number,)), False)
            self.assertIs(is_ring(bare(0), (number,)), False)
            for row in ((0, 1, 2, 3), (0, 2), (0, 1, 2)):
                for at in range(len(row)):
                    self.assertIs(is_ring(web, row[:at] + (number,) + row[at + 1:]), False)
                    self.assertIs(is_ring(web, row[:at] + (number,) + row[at:]), False)
        self.assertIs(is_ring(web, tuple(range(2000))), False)

    def test_large_webs(self):
        rng = random.Random(42)
        for web in large_webs(43):
            for k in range(30):
                row = tuple(rng.sample(range(40), rng.choice((1, 2, 3, 3, 4, 5, 40))))
                self.assertIs(is_ring(web, row), plain_ring(web, row))


class Form(unittest.TestCase):
    def test_named_ones(self):
        self.assertEqual(ring_form((5,)), (5,))
        self.assertEqual(ring_form((5, 2)), (2, 5))
        self.assertEqual(ring_form((2, 5)), (2, 5))
        self.assertEqual(ring_form((3, 1, 2)), (1, 2, 3))
        self.assertEqual(ring_form((3, 0, 2, 1)), (0, 2, 1, 3))
        self.assertEqual(ring_form((1, 2, 0, 3)), (0, 2, 1, 3))

    def test_any_unlike_numbers(self):
        rng = random.Random(44)
        numbers = [-FAR, -FAR + 1, -3, -2, -1, 0, 1, 2, 3, 39, 40, 41, 100, FAR, FAR + 1]
        for k in range(300):
            row = tuple(rng.sample(numbers, rng.randrange(1, 9)))
            form = ring_form(row)
            self.assertIs(type(form), tuple)
            self.assertEqual(form, plain_form(row))
            for other in turned(row):
                self.assertEqual(ring_form(other), form)

    def test_a_long_one(self):
        row = tuple(range(20, 60)) + tuple(range(20))
        self.assertEqual(ring_form(row), tuple(range(60)))
        self.assertEqual(ring_form(row[::-1]), tuple(range(60)))


class AllRings(unittest.TestCase):
    def test_held_against_a_plain_search(self):
        for web in small_webs(51, 150):
            rings = plain_rings(web)
            if len(rings) <= 300:
                told = all_rings(web)
                self.assertIs(type(told), list)
                self.assertTrue(all(type(ring) is tuple for ring in told))
                self.assertEqual(told, rings)

    def test_seven_places(self):
        rng = random.Random(52)
        for count in (7, 9, 11, 13):
            for web in (drawn_plain(rng, 7, count), drawn_web(rng, 7, count)):
                self.assertEqual(all_rings(web), plain_rings(web))

    def test_none(self):
        rng = random.Random(53)
        for web in (bare(0), bare(40), drawn_wood(rng, 40), renamed(rng, drawn_wood(rng, 40))):
            self.assertEqual(all_rings(web), [])

    def test_just_below_at_and_above_the_bound(self):
        few = [whole_web(6), whole_web(5), whole_web(5)] + [whole_web(4)] * 4
        wanted = []
        many = 0
        for web in few:
            wanted += [tuple(place + many for place in ring) for ring in plain_rings(web)]
            many += web[0]
        self.assertEqual(len(wanted), 299)
        self.assertEqual(all_rings(joined(*few)), sorted(wanted))
        further = (
            (looped(), (0,)), (plain_web(2, [(0, 1)] * 5), (0, 1)), (circle(3), (0, 1, 2)), (circle(8), tuple(range(8))),
        )
        for web, ring in further:
            more = sorted(wanted + [tuple(place + 32 for place in ring)])
            self.assertEqual(all_rings(joined(*few, web)), more)
            for last in (looped(), plain_web(2, [(0, 1)] * 2)):
                if web[0] + last[0] <= 8:
                    with self.assertRaises(TooMany):
                        all_rings(joined(*few, web, last))
                    with self.assertRaises(TooMany):
                        all_rings(joined(last, *few, web))

    def test_three_hundred_in_one_part(self):
        rings = [(0, one, 1, other) for one in range(2, 27) for other in range(one + 1, 27)]
        self.assertEqual(len(rings), 300)
        self.assertEqual(all_rings(theta(25)), sorted(rings))
        with self.assertRaises(TooMany):
            all_rings(joined(theta(25), looped()))
        with self.assertRaises(TooMany):
            all_rings(plain_web(27, theta(25)[1] + ((0, 1),)))
        with self.assertRaises(TooMany):
            all_rings(theta(26))

    def test_too_many_comes_soon(self):
        rng = random.Random(54)
        webs = [drawn_plain(rng, 40, 200), drawn_web(rng, 40, 200), joined(bare(20), whole_web(20)),
                joined(drawn_plain(rng, 21, 200), bare(19)), drawn_plain(rng, 40, 80), theta(38)]
        webs.append(plain_web(40, [(k, 39 - k // 2) for k in range(40)] + list(circle(40)[1])))
        # A ring of rings: few short ones, and very many that go all the way round.
        webs.append(plain_web(40, list(circle(40)[1]) + [(k, (k + 2) % 40) for k in range(0, 40, 2)]))
        for web in webs:
            with soon(), self.assertRaises(TooMany):
                all_rings(web)

    def test_few_rings_and_many_dead_ends(self):
        rng = random.Random(55)
        four = plain_rings(whole_web(4))
        web = whole_chain(13, 4)
        wanted = sorted(tuple(place + 3 * k for place in ring) for ring in four for k in range(13))
        self.assertEqual(web[0], 40)
        with soon():
            self.assertEqual(all_rings(web), wanted)
        five = plain_rings(whole_web(5))
        wanted = sorted(tuple(place + 4 * k for place in ring) for ring in five for k in range(8))
        with soon():
            self.assertEqual(all_rings(whole_chain(8, 5)), wanted)
        for k in range(4):
            with soon():
                self.assertEqual(len(all_rings(renamed(rng, whole_chain(13, 4)))), 91)
                self.assertEqual(len(all_rings(renamed(rng, joined(whole_chain(8, 5), bare(7))))), 296)

    def test_told_lists_are_the_askers_own(self):
        told = all_rings(whole_web(4))
        kept = list(told)
        told.append((9,))
        told[0] = None
        self.assertEqual(all_rings(whole_web(4)), kept)


class Least(unittest.TestCase):
    def held(self, web):
        ring = least_ring(web)
        wanted = plain_length(web)
        if wanted is None:
            self.assertIsNone(ring)
        else:
            self.assertIs(type(ring), tuple)
            self.assertTrue(plain_ring(web, ring))
            self.assertEqual(ring, plain_form(ring))
            self.assertEqual(len(ring), wanted)

    def test_held_against_all_rings(self):
        for web in small_webs(61, 200):
            rings = plain_rings(web)
            ring = least_ring(web)
            if rings:
                self.assertIn(ring, rings)
                self.assertEqual(len(ring), min(len(other) for other in rings))
            else:
                self.assertIsNone(ring)

    def test_large_webs(self):
        for web in large_webs(62):
            with soon():
                self.held(web)

    def test_long_least_rings(self):
        rng = random.Random(63)
        for web, length in three_tied():
            self.assertEqual(plain_length(web), length)
            for k in range(3):
                self.held(renamed(rng, web))
        for many in (3, 4, 5, 17, 40):
            self.assertEqual(least_ring(circle(many)), tuple(range(many)))

    def test_shorter_kinds_go_ahead(self):
        self.assertEqual(least_ring(joined(circle(3), plain_web(2, [(0, 1)] * 2), looped())), (5,))
        self.assertEqual(least_ring(joined(circle(3), plain_web(2, [(0, 1)] * 2))), (3, 4))
        self.assertEqual(least_ring(joined(circle(5), circle(4), circle(3))), (9, 10, 11))
        self.assertEqual(least_ring(plain_web(3, [(0, 1), (1, 2), (1, 2), (0, 2)])), (1, 2))
        self.assertEqual(least_ring(plain_web(4, [(0, 1), (1, 2), (2, 0), (2, 3), (3, 3)])), (3,))

    def test_asked_again(self):
        for web in large_webs(64)[-8:]:
            self.assertEqual(least_ring(web), least_ring(web))


class Named(unittest.TestCase):
    def test_arguments_by_their_names(self):
        self.assertIs(is_ring(ring=(0, 2, 1), web=circle(3)), True)
        self.assertEqual(ring_form(ring=(2, 1, 0)), (0, 1, 2))
        self.assertEqual(all_rings(web=circle(3)), [(0, 1, 2)])
        self.assertEqual(least_ring(web=circle(3)), (0, 1, 2))


if __name__ == "__main__":
    unittest.main()
