"""9.1 to 9.3: all least sets, and 0.2, 0.4 as far as they speak of them."""

import copy
import random
import unittest
from itertools import combinations
from math import comb

from ringfell.errors import TooMany
from ringfell.leastsets import clear_counts, least_sets, place_kinds
from tests.helpers import (all_sets, bare, circle, drawn_plain, drawn_set, drawn_web, drawn_wood, joined, looped,
                           plain_clears, plain_web, small_webs, soon, theta, whole_web)


def tied_of(web):
    return sorted({place for tie in web[1] for place in tie})


def plain_least_sets(web):
    """By a search through all sets; a place without ties is in none, by 9.1."""
    clearing = [places for places in all_sets(web[0]) if plain_clears(web, places)]
    return sorted(places for places in clearing if not any(set(other) < set(places) for other in clearing))


def tied_clearing(web):
    """The clearing sets of places that have ties."""
    tied = tied_of(web)
    return [places for size in range(len(tied) + 1) for places in combinations(tied, size)
            if plain_clears(web, places)]


def nine_tied(seed, count):
    """Forty places, of which nine have ties, scattered."""
    rng = random.Random(seed)
    webs = []
    while len(webs) < count:
        web = rng.choice((drawn_plain(rng, 9, rng.randrange(9, 30)), drawn_web(rng, 9, rng.choice((12, 20, 200)))))
        if len(tied_of(web)) == 9:
            order = drawn_set(rng, 40, 9)
            webs.append(plain_web(40, [(order[a], order[b]) for a, b in web[1]]))
    return webs


def ten_tied(seed, many):
    rng = random.Random(seed)
    order = drawn_set(rng, many, 10)
    rows = [circle(10), joined(*[looped()] * 10), plain_web(10, [(place, place + 1) for place in range(9)]),
            plain_web(10, [(k, k + 1) for k in range(0, 10, 2)]), whole_web(10),
            joined(plain_web(9, drawn_wood(rng, 9)[1] + ((0, 1), (2, 3), (4, 5), (6, 7), (7, 8))), looped())]
    return [plain_web(many, [(order[a], order[b]) for a, b in web[1]]) for web in rows]


class Least(unittest.TestCase):
    def told(self, web):
        told = least_sets(web)
        self.assertIs(type(told), list)
        self.assertTrue(all(type(places) is tuple for places in told))
        self.assertEqual(least_sets(web), told)
        return told

    def test_small_webs(self):
        for web in small_webs(901, 250):
            self.assertEqual(self.told(web), plain_least_sets(web))

    def test_seven_to_nine_places(self):
        rng = random.Random(902)
        for k in range(25):
            many = rng.randrange(7, 10)
            web = drawn_plain(rng, many, rng.randrange(many, 2 * many + 3))
            self.assertEqual(self.told(web), plain_least_sets(web))

    def test_nine_tied_places_among_forty(self):
        for web in nine_tied(903, 12):
            with soon():
                told = self.told(web)
            clearing = tied_clearing(web)
            self.assertEqual(told, sorted(places for places in clearing if not any(
                set(other) < set(places) for other in clearing)))

    def test_edges(self):
        for web in (bare(0), bare(5), bare(40), plain_web(4, [(0, 1), (1, 2), (2, 3)])):
            self.assertEqual(self.told(web), [()])
        self.assertEqual(self.told(looped()), [(0,)])
        self.assertEqual(self.told(circle(4)), [(0,), (1,), (2,), (3,)])
        self.assertEqual(self.told(joined(bare(2), circle(3), bare(30))), [(2,), (3,), (4,)])
        self.assertEqual(self.told(joined(looped(), circle(3), looped())), [(0, 1, 4), (0, 2, 4), (0, 3, 4)])
        self.assertEqual(self.told(theta(3)), [(0,), (1,), (2, 3), (2, 4), (3, 4)])

    def test_told_lists_are_the_askers_own(self):
        told = least_sets(circle(3))
        told.append(None)
        told[0] = None
        self.assertEqual(least_sets(circle(3)), [(0,), (1,), (2,)])


class Kinds(unittest.TestCase):
    def held(self, web, fewest_sets):
        told = place_kinds(web)
        self.assertEqual(place_kinds(web), told)
        self.assertIs(type(told), tuple)
        fewest, kinds = told
        self.assertIs(type(fewest), int)
        self.assertIs(type(kinds), list)
        self.assertEqual(fewest, len(fewest_sets[0]))
        self.assertEqual(len(kinds), web[0])
        for place, kind in enumerate(kinds):
            self.assertIs(type(kind), tuple)
            having = [places for places in fewest_sets if place in places]
            if len(having) == len(fewest_sets):
                self.assertEqual(kind, ("all",))
            elif not having:
                self.assertEqual(kind, ("none",))
            else:
                self.assertEqual((kind[0], len(kind)), ("some", 3))
                self.assertIn(kind[1], having)
                self.assertIn(kind[2], [places for places in fewest_sets if place not in places])
        return [kind[0] for kind in kinds]

    def test_small_webs(self):
        words = []
        for web in small_webs(911, 250):
            clearing = [places for places in all_sets(web[0]) if plain_clears(web, places)]
            words += self.held(web, [places for places in clearing if len(places) == len(clearing[0])])
        self.assertGreater(min(words.count(word) for word in ("all", "none", "some")), 40)

    def test_nine_tied_places_among_forty(self):
        for web in nine_tied(912, 8):
            clearing = tied_clearing(web)
            with soon():
                self.held(web, [places for places in clearing if len(places) == len(clearing[0])])

    def test_edges(self):
        self.assertEqual(place_kinds(bare(0)), (0, []))
        self.assertEqual(place_kinds(bare(3)), (0, [("none",)] * 3))
        self.assertEqual(place_kinds(plain_web(3, [(0, 1), (1, 2)])), (0, [("none",)] * 3))
        self.assertEqual(place_kinds(joined(looped(), bare(1))), (1, [("all",), ("none",)]))
        self.assertEqual(place_kinds(plain_web(5, [(0, 1), (1, 2), (0, 2), (2, 3), (3, 4), (2, 4)])),
                         (1, [("none",), ("none",), ("all",), ("none",), ("none",)]))
        fewest, kinds = place_kinds(plain_web(2, [(0, 1)] * 2))
        self.assertEqual((fewest, kinds), (1, [("some", (0,), (1,)), ("some", (1,), (0,))]))

    def test_told_lists_are_the_askers_own(self):
        told = place_kinds(circle(3))
        kept = copy.deepcopy(told)
        told[1].append(None)
        told[1][0] = None
        self.assertEqual(place_kinds(circle(3)), kept)


class Counts(unittest.TestCase):
    def told(self, web):
        told = clear_counts(web)
        self.assertIs(type(told), list)
        self.assertEqual([type(number) for number in told], [int] * (web[0] + 1))
        self.assertEqual(clear_counts(web), told)
        return told

    def test_small_webs(self):
        for web in small_webs(921, 250):
            clearing = [len(places) for places in all_sets(web[0]) if plain_clears(web, places)]
            self.assertEqual(self.told(web), [clearing.count(size) for size in range(web[0] + 1)])

    def test_bare_places(self):
        rng = random.Random(922)
        for k in range(20):
            web = drawn_web(rng, 4, rng.randrange(8))
            for more in (1, 3, 5):
                wide = joined(bare(more // 2), web, bare(more - more // 2))
                clearing = [len(places) for places in all_sets(wide[0]) if plain_clears(wide, places)]
                self.assertEqual(self.told(wide), [clearing.count(size) for size in range(wide[0] + 1)])

    def test_nine_tied_places_among_forty(self):
        for web in nine_tied(923, 8):
            clearing = [len(places) for places in tied_clearing(web)]
            with soon():
                told = self.told(web)
            for size in range(41):
                wanted = sum(comb(31, size - part) for part in clearing if 0 <= size - part)
                self.assertEqual(told[size], wanted)

    def test_edges(self):
        self.assertEqual(self.told(bare(0)), [1])
        self.assertEqual(self.told(bare(1)), [1, 1])
        self.assertEqual(self.told(looped()), [0, 1])
        self.assertEqual(self.told(bare(40)), [comb(40, size) for size in range(41)])
        self.assertEqual(self.told(joined(looped(), bare(39))), [0] + [comb(39, size) for size in range(40)])
        self.assertEqual(self.told(plain_web(3, [(0, 1), (1, 2)])), [1, 3, 3, 1])
        self.assertEqual(self.told(circle(3)), [0, 3, 3, 1])

    def test_told_lists_are_the_askers_own(self):
        clear_counts(circle(3)).append(None)
        self.assertEqual(clear_counts(circle(3)), [0, 3, 3, 1])


class Refused(unittest.TestCase):
    def test_ten_places_with_ties(self):
        for many in (10, 11, 40):
            for web in ten_tied(many, many):
                self.assertEqual(len(tied_of(web)), 10)
                for function in (least_sets, place_kinds, clear_counts):
                    with self.assertRaises(TooMany):
                        function(web)
        for web in (whole_web(20), plain_web(40, [(place, place + 1) for place in range(39)])):
            for function in (least_sets, place_kinds, clear_counts):
                with self.assertRaises(TooMany):
                    function(web)

    def test_nine_places_with_ties(self):
        for web in (joined(circle(9), bare(31)), joined(*[looped()] * 9), whole_web(9),
                    plain_web(9, [(place, place + 1) for place in range(8)])):
            least_sets(web)
            place_kinds(web)
            clear_counts(web)


class Named(unittest.TestCase):
    def test_arguments_by_their_names(self):
        self.assertEqual(least_sets(web=looped()), [(0,)])
        self.assertEqual(place_kinds(web=looped()), (1, [("all",)]))
        self.assertEqual(clear_counts(web=looped()), [0, 1])


if __name__ == "__main__":
    unittest.main()
