"""10.2: ranks and knots, what clears one-way webs, and 0.2 as far as it speaks of them."""

import random
import unittest
from itertools import permutations

from ringfell.ranks import clears_oneway, knots_of, ranked_web, ranks_right, round_off
from tests.helpers import FAR, all_sets, drawn_set, soon
from tests.ways import (behind, circled, drawn_oneway, large_oneways, oneway, plain_clearing, plain_free,
                        plain_reached, plain_rest, plain_round, plain_together, small_oneways, whole_oneway)


def plain_right(web, order):
    """10.2, word by word."""
    if sorted(order) != list(range(web[0])):
        return False
    return all(order.index(a) < order.index(b) for a, b in web[1])


def first_of_all(web):
    """The first of all ranks, by a search through all orders; None without ranks."""
    return next((order for order in permutations(range(web[0])) if plain_right(web, order)), None)


def rowed(many):
    return oneway(many, [(place, place + 1) for place in range(many - 1)])


def drawn_free(rng, many, count):
    """A one-way web without a round, its places mixed."""
    order = rng.sample(range(many), many)
    pairs = [(order[a], order[b]) for a in range(many) for b in range(a + 1, many)]
    return oneway(many, rng.sample(pairs, min(count, len(pairs))))


def free_webs(seed, count, most=6):
    rng = random.Random(seed)
    return [drawn_free(rng, many, rng.randrange(2 * many)) for many in (rng.randrange(1, most + 1)
                                                                       for k in range(count))]


class Ranked(unittest.TestCase):
    def held(self, web):
        told = ranked_web(web)
        self.assertIs(type(told), tuple)
        self.assertEqual(len(told), 2)
        self.assertIs(type(told[1]), tuple)
        self.assertEqual(ranked_web(web), told)
        if plain_free(web):
            self.assertEqual(told[0], "ranks")
            self.assertTrue(plain_right(web, told[1]))
            self.assertIs(ranks_right(web, told[1]), True)
        else:
            self.assertEqual(told[0], "round")
            self.assertTrue(plain_round(web, told[1]))
        return told

    def test_the_first_of_all_ranks(self):
        for web in small_oneways(1101, 150) + free_webs(1102, 150):
            told = self.held(web)
            wanted = first_of_all(web)
            if wanted is None:
                self.assertEqual(told[0], "round")
            else:
                self.assertEqual(told, ("ranks", wanted))

    def test_named_webs(self):
        self.assertEqual(ranked_web((0, ())), ("ranks", ()))
        self.assertEqual(ranked_web((3, ())), ("ranks", (0, 1, 2)))
        self.assertEqual(ranked_web(rowed(40)), ("ranks", tuple(range(40))))
        about = oneway(40, [(place + 1, place) for place in range(39)])
        self.assertEqual(ranked_web(about), ("ranks", tuple(range(39, -1, -1))))
        self.assertEqual(ranked_web(oneway(4, [(3, 0)])), ("ranks", (1, 2, 3, 0)))
        self.assertEqual(ranked_web(oneway(5, [(4, 1), (2, 0)])), ("ranks", (2, 0, 3, 4, 1)))
        self.assertEqual(ranked_web((1, ((0, 0),))), ("round", (0,)))
        self.assertEqual(ranked_web(oneway(3, [(0, 1), (1, 2), (2, 2)])), ("round", (2,)))

    def test_large_webs(self):
        rng = random.Random(1103)
        webs = large_oneways(1104) + [drawn_free(rng, 40, count) for count in (1, 40, 100, 200)]
        for web in webs + [circled(40), oneway(40, rowed(40)[1] + ((39, 39),))]:
            with soon():
                self.held(web)

    def test_just_one_arrow_closes_a_round(self):
        rng = random.Random(1105)
        for many in (2, 3, 7, 20, 40):
            for k in range(10):
                order = rng.sample(range(many), many)
                pairs = [(order[at], order[at + 1]) for at in range(many - 1)]
                self.assertEqual(self.held(oneway(many, pairs)), ("ranks", tuple(order)))
                back = oneway(many, pairs + [(order[-1], order[0])])
                self.assertEqual(set(self.held(back)[1]), set(range(many)))


class Right(unittest.TestCase):
    def test_all_orders(self):
        for web in small_oneways(1111, 60, 4) + free_webs(1112, 60, 5):
            for order in permutations(range(web[0])):
                self.assertIs(ranks_right(web, order), plain_right(web, order))

    def test_any_numbers(self):
        for web in small_oneways(1113, 40, 3):
            for size in range(5):
                for order in permutations((-2, -1, 0, 1, 2, 3), size):
                    self.assertIs(ranks_right(web, order), plain_right(web, order))

    def test_told_ranks_with_one_thing_changed(self):
        rng = random.Random(1114)
        for many in (1, 2, 5, 20, 40):
            web = drawn_free(rng, many, 4 * many)
            order = ranked_web(web)[1]
            self.assertIs(ranks_right(web, order), True)
            for at in range(many):
                self.assertIs(ranks_right(web, order[:at] + order[at + 1:]), False)
                self.assertIs(ranks_right(web, order[:at] + order[at:at + 1] + order[at:]), False)
                for other in (many, -1, many - 1 - many, 41, FAR, -FAR):
                    self.assertIs(ranks_right(web, order[:at] + (other,) + order[at + 1:]), False)
                    self.assertIs(ranks_right(web, order[:at] + (other,) + order[at:]), False)
                twice = order[:at] + order[at - 1:at] + order[at + 1:]
                self.assertIs(ranks_right(web, twice), plain_right(web, twice))
                for onward in range(at + 1, many):
                    row = list(order)
                    row[at], row[onward] = row[onward], row[at]
                    self.assertIs(ranks_right(web, tuple(row)), plain_right(web, tuple(row)))

    def test_edges(self):
        self.assertIs(ranks_right((0, ()), ()), True)
        self.assertIs(ranks_right((0, ()), (0,)), False)
        self.assertIs(ranks_right((1, ()), ()), False)
        self.assertIs(ranks_right((1, ()), (0,)), True)
        self.assertIs(ranks_right((1, ((0, 0),)), (0,)), False)
        self.assertIs(ranks_right(oneway(2, [(0, 1), (1, 1)]), (0, 1)), False)
        self.assertIs(ranks_right(oneway(2, [(0, 1)]), (0, 1)), True)
        self.assertIs(ranks_right(oneway(2, [(0, 1)]), (1, 0)), False)
        self.assertIs(ranks_right((2, ()), (FAR, -FAR)), False)


class Knots(unittest.TestCase):
    def held(self, web):
        told = knots_of(web)
        self.assertIs(type(told), list)
        self.assertTrue(all(type(knot) is tuple for knot in told))
        wanted = {tuple(sorted(other for other in range(web[0]) if plain_together(web[1], place, other)))
                  for place in range(web[0])}
        self.assertEqual(told, sorted(wanted))
        return told

    def test_against_ways_gone_through(self):
        for web in small_oneways(1121, 200, 7) + free_webs(1122, 40):
            self.held(web)

    def test_large_webs(self):
        for web in large_oneways(1123)[:6]:
            self.held(web)

    def test_named_webs(self):
        self.assertEqual(self.held((0, ())), [])
        self.assertEqual(self.held((1, ((0, 0),))), [(0,)])
        self.assertEqual(self.held(rowed(40)), [(place,) for place in range(40)])
        self.assertEqual(self.held(circled(40)), [tuple(range(40))])
        self.assertEqual(self.held(oneway(40, rowed(40)[1] + ((30, 10),))),
                         [(place,) for place in range(10)] + [tuple(range(10, 31))]
                         + [(place,) for place in range(31, 40)])
        two = behind(circled(20), circled(20))
        self.assertEqual(self.held(two), [tuple(range(20)), tuple(range(20, 40))])
        self.assertEqual(len(self.held(oneway(40, two[1] + ((3, 25),)))), 2)
        self.assertEqual(len(self.held(oneway(40, two[1] + ((3, 25), (30, 0))))), 1)

    def test_told_lists_are_the_askers_own(self):
        told = knots_of(circled(3))
        told.append(None)
        told[0] = None
        self.assertEqual(knots_of(circled(3)), [(0, 1, 2)])


class Clears(unittest.TestCase):
    def held(self, web, places):
        clears = clears_oneway(web, places)
        found = round_off(web, places)
        self.assertIs(clears, plain_clearing(web, places))
        if clears:
            self.assertIsNone(found)
        else:
            self.assertIs(type(found), tuple)
            self.assertTrue(plain_round(web, found))
            self.assertFalse(set(found) & set(places))
        self.assertEqual(round_off(web, places), found)

    def test_every_set_of_small_webs(self):
        for web in small_oneways(1131, 150, 6):
            for places in all_sets(web[0]):
                self.held(web, places)

    def test_large_webs(self):
        rng = random.Random(1132)
        for web in large_oneways(1133):
            for size in (0, 1, web[0] // 4, web[0] // 2, web[0] - 3, web[0]):
                with soon():
                    self.held(web, drawn_set(rng, web[0], size))

    def test_edges(self):
        self.held((0, ()), ())
        self.assertIs(clears_oneway((0, ()), ()), True)
        self.assertIsNone(round_off((0, ()), ()))
        self.assertEqual(round_off((1, ((0, 0),)), ()), (0,))
        self.assertIsNone(round_off((1, ((0, 0),)), (0,)))
        for place in range(40):
            self.held(circled(40), (place,))
        self.held(whole_oneway(14), tuple(range(13)))
        self.held(whole_oneway(14), tuple(range(12)))

    def test_a_round_off_is_one_of_what_is_left(self):
        rng = random.Random(1134)
        for k in range(60):
            web = drawn_oneway(rng, 8, 20)
            places = drawn_set(rng, 8, 2)
            found = round_off(web, places)
            if found is not None:
                rest = plain_rest(web, places)
                self.assertTrue(all(place in plain_reached(rest[1], found[0]) for place in found))
                self.assertFalse(clears_oneway(rest, ()))


class Named(unittest.TestCase):
    def test_arguments_by_their_names(self):
        web = oneway(3, [(0, 1), (1, 0), (1, 2)])
        self.assertEqual(ranked_web(web=oneway(2, [(1, 0)])), ("ranks", (1, 0)))
        self.assertIs(ranks_right(order=(1, 0), web=oneway(2, [(1, 0)])), True)
        self.assertEqual(knots_of(web=web), [(0, 1), (2,)])
        self.assertIs(clears_oneway(places=(0,), web=web), True)
        self.assertIsNone(round_off(places=(0,), web=web))


if __name__ == "__main__":
    unittest.main()
