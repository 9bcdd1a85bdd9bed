"""5.1 and 5.3: rings apart, and 0.2 as far as it speaks of them."""

import copy
import random
import unittest
from itertools import combinations

from ringfell.apart import apart_rings, apart_right, are_apart
from tests.helpers import (FAR, all_sets, bare, circle, drawn_plain, drawn_wood, joined, large_webs, looped,
                           plain_clears, plain_fewest, plain_form, plain_ring, plain_rings, plain_web, renamed,
                           small_webs, soon, theta, three_tied, turned, whole_web)


def plain_short(many):
    """5.2: 1, 2, 4, 6, 10, 14, 22, 30, .. places."""
    leasts = [1, 2, 4, 6, 10, 14, 22, 30, 46]
    return sum(1 for least in leasts if least <= many)


def plain_apart(web, rings):
    places = [place for ring in rings for place in ring]
    return all(plain_ring(web, ring) for ring in rings) and len(set(places)) == len(places)


def plain_right(web, rings, places):
    if not plain_apart(web, rings) or not plain_clears(web, places):
        return False
    return len(places) <= len(rings) * plain_short(web[0])


class Told(unittest.TestCase):
    def held(self, web):
        told = apart_rings(web)
        self.assertIs(type(told), tuple)
        rings, places = told
        self.assertIs(type(rings), list)
        self.assertIs(type(places), tuple)
        self.assertEqual(rings, sorted(rings))
        for ring in rings:
            self.assertIs(type(ring), tuple)
            self.assertEqual(ring, plain_form(ring))
        self.assertEqual(list(places), sorted(set(places)))
        self.assertLessEqual(set(places), set(range(web[0])))
        self.assertTrue(plain_right(web, rings, places))
        self.assertIs(are_apart(web, rings), True)
        self.assertIs(apart_right(web, rings, places), True)
        self.assertEqual(apart_rings(web), told)
        return told

    def test_small_webs(self):
        for web in small_webs(121, 200, 7):
            rings, places = self.held(web)
            self.assertLessEqual(len(rings), plain_fewest(web))
            self.assertLessEqual(plain_fewest(web), len(places))

    def test_large_webs(self):
        for web in large_webs(122):
            with soon():
                self.held(web)

    def test_webs_with_long_rings(self):
        rng = random.Random(123)
        for web, length in three_tied():
            self.held(web)
            self.held(renamed(rng, web))
            self.held(self.stretched(rng, web))
        for count in (42, 44, 48, 52, 56, 60):
            self.held(drawn_plain(rng, 40, count))

    def stretched(self, rng, web):
        """Further places on the ties, up to forty: far longer rings than the short number."""
        many = web[0]
        pairs = list(web[1])
        while many < 40:
            a, b = pairs.pop(rng.randrange(len(pairs)))
            pairs += [(a, many), (many, b)]
            many += 1
        return renamed(rng, plain_web(many, pairs))

    def test_webs_with_no_ring(self):
        rng = random.Random(124)
        for web in (bare(0), bare(1), bare(40), drawn_wood(rng, 40), renamed(rng, drawn_wood(rng, 30))):
            self.assertEqual(apart_rings(web), ([], ()))

    def test_one_ring_alone(self):
        for many in (3, 7, 40):
            rings, places = self.held(circle(many))
            self.assertEqual(rings, [tuple(range(many))])

    def test_told_lists_are_the_askers_own(self):
        web = joined(circle(3), looped())
        told = apart_rings(web)
        self.assertEqual(told[0], [(0, 1, 2), (3,)])
        told[0].append((7,))
        told[0][0] = None
        self.assertEqual(apart_rings(web)[0], [(0, 1, 2), (3,)])


class Judged(unittest.TestCase):
    def apart(self, web, rings):
        before = copy.deepcopy(rings)
        told = are_apart(web, rings)
        self.assertIs(type(told), bool)
        self.assertIs(are_apart(web, tuple(rings)), told)
        self.assertEqual(rings, before)
        return told

    def right(self, web, rings, places):
        before = copy.deepcopy(rings)
        told = apart_right(web, rings, places)
        self.assertIs(type(told), bool)
        self.assertIs(apart_right(web, tuple(rings), places), told)
        self.assertEqual(rings, before)
        return told

    def test_all_rings_and_sets_of_small_webs(self):
        for web in small_webs(125, 60, 5):
            rings = plain_rings(web)[:6]
            for size in range(4):
                for some in combinations(rings, size):
                    self.assertIs(self.apart(web, list(some)), plain_apart(web, some))
                    for places in all_sets(web[0]):
                        self.assertIs(self.right(web, list(some), places), plain_right(web, some, places))

    def test_rings_turned(self):
        web = joined(circle(3), circle(4), plain_web(2, [(0, 1)] * 2), looped())
        rings = [(0, 1, 2), (3, 4, 5, 6), (7, 8), (9,)]
        rng = random.Random(126)
        for k in range(60):
            some = [rng.choice(turned(ring)) for ring in rings]
            rng.shuffle(some)
            self.assertIs(self.apart(web, some), True)
            self.assertIs(self.right(web, some, (0, 3, 7, 9)), True)
            self.assertIs(self.right(web, some, (0, 3, 7)), False)

    def test_rings_left_out(self):
        web = joined(circle(3), circle(4), looped())
        rings = [(0, 1, 2), (3, 4, 5, 6), (7,)]
        for size in range(4):
            for some in combinations(rings, size):
                self.assertIs(self.apart(web, list(some)), True)
                self.assertIs(self.right(web, list(some), (0, 3, 7)), size > 0)
                self.assertIs(self.right(web, list(some), (0, 3)), False)

    def test_one_ring_or_one_place_twice(self):
        web = joined(theta(3), circle(3))
        self.assertIs(self.apart(web, [(0, 2, 1, 3), (5, 6, 7)]), True)
        self.assertIs(self.apart(web, [(5, 6, 7), (5, 6, 7)]), False)
        self.assertIs(self.apart(web, [(5, 6, 7), (7, 6, 5)]), False)
        self.assertIs(self.apart(web, [(0, 2, 1, 3), (0, 2, 1, 4)]), False)
        self.assertIs(self.right(web, [(5, 6, 7), (5, 6, 7)], (0, 5)), False)
        self.assertIs(self.right(web, [(0, 2, 1, 3), (0, 2, 1, 4), (5, 6, 7)], (0, 5)), False)
        bow = plain_web(5, [(0, 1), (1, 2), (0, 2), (2, 3), (3, 4), (2, 4)])
        self.assertIs(self.apart(bow, [(0, 1, 2), (2, 3, 4)]), False)

    def test_wrong_rings(self):
        web = joined(circle(3), circle(4), looped())
        rings = [(0, 1, 2), (3, 4, 5, 6), (7,)]
        self.assertIs(self.right(web, rings, (2, 6, 7)), True)
        for ring in ((), (3,), (3, 4), (3, 4, 5), (3, 5, 4, 6), (3, 4, 5, 6, 3), (3, 4, 5, 6, 8), (-1,), (8,), (FAR,),
                     (3, 4, 5, -1), (3, 4, 5, FAR), (3, 4, 5, -FAR), (-1, -2, -3), (3, 3)):
            for at in range(3):
                wrong = rings[:at] + [ring] + rings[at + 1:]
                self.assertIs(self.apart(web, wrong), False)
                self.assertIs(self.right(web, wrong, (2, 6, 7)), False)
            self.assertIs(self.apart(web, [ring]), False)
            self.assertIs(self.right(web, rings + [ring], (2, 6, 7)), False)

    def test_no_rings(self):
        self.assertIs(self.apart(circle(3), []), True)
        self.assertIs(self.apart(bare(0), []), True)
        self.assertIs(self.right(bare(0), [], ()), True)
        self.assertIs(self.right(bare(3), [], ()), True)
        self.assertIs(self.right(bare(3), [], (0,)), False)
        self.assertIs(self.right(circle(3), [], (0,)), False)

    def test_one_place_too_many(self):
        rng = random.Random(127)
        for many in (1, 2, 3, 4, 5, 6, 9, 10, 13, 14, 21, 22, 29, 30, 39, 40):
            web = joined(looped(), bare(many - 1))
            most = plain_short(many)
            for size in range(1, many + 1):
                places = (0,) + tuple(sorted(rng.sample(range(1, many), size - 1)))
                self.assertIs(self.right(web, [(0,)], places), size <= most)
        web = joined(*[looped()] * 6, bare(34))
        for count in range(1, 7):
            rings = [(place,) for place in range(count)]
            for size in range(6, 41):
                self.assertIs(self.right(web, rings, tuple(range(size))), size <= count * 8)

    def test_sets_that_do_not_clear(self):
        web = whole_web(6)
        rings = [(0, 1, 2), (3, 4, 5)]
        self.assertIs(self.right(web, rings, (0, 1, 2, 3)), True)
        self.assertIs(self.right(web, rings, (0, 1, 2)), False)
        self.assertIs(self.right(web, rings, ()), False)

    def test_large_webs(self):
        rng = random.Random(128)
        for web in large_webs(128):
            rings, places = apart_rings(web)
            if rings:
                at = rng.randrange(len(rings))
                self.assertIs(self.right(web, rings + [rings[at]], places), False)
                self.assertIs(self.right(web, rings[:at] + [()] + rings[at + 1:], places), False)
                fewer = rings[:at] + rings[at + 1:]
                self.assertIs(self.right(web, fewer, places), plain_right(web, fewer, places))
                self.assertIs(self.right(web, rings, ()), False)

    def test_arguments_by_their_names(self):
        self.assertEqual(apart_rings(web=looped()), ([(0,)], (0,)))
        self.assertIs(are_apart(rings=[(0,)], web=looped()), True)
        self.assertIs(apart_right(places=(0,), rings=[(0,)], web=looped()), True)


if __name__ == "__main__":
    unittest.main()
