"""6.1, 6.4: least cuts with their trees of cases, and 0.2, 0.4 as far as they speak of them."""

import copy
import random
import unittest
from itertools import combinations

from ringfell.casejudge import tree_shows
from ringfell.cases import least_cut
from ringfell.errors import TooMany
from tests.helpers import (all_sets, bare, circle, drawn_plain, drawn_set, drawn_wood, drawn_web, joined, looped,
                           plain_clears, plain_cut, plain_ring, plain_web, small_webs, soon, theta,
                           whole_chain, whole_web)
from tests.trees import all_leaves, drawn_weights, plain_least, plain_shows, weigh


def kept_clear(web, kept):
    """Whether the kept places hold no ring."""
    return plain_clears(web, [place for place in range(web[0]) if place not in kept])


def fourteen_open(seed, ties=200):
    """Forty places, twenty-six of them kept and without a ring among them."""
    rng = random.Random(seed)
    wood = drawn_wood(rng, 26)
    pairs = [(a + 14, b + 14) for a, b in wood[1]]
    while len(pairs) < ties:
        pairs.append((rng.randrange(14), rng.randrange(40)))
    web = plain_web(40, pairs)
    return web, tuple(range(14, 40))


def woven(seed, knots, each, extra):
    """Fourteen open places, each tied to some of the kept ones behind them, and some to one another."""
    rng = random.Random(seed)
    pairs = rng.sample(list(combinations(range(14), 2)), extra)
    for place in range(14):
        pairs += [(place, 14 + knot) for knot in rng.sample(range(knots), each)]
    return plain_web(14 + knots, pairs), tuple(range(14, 14 + knots))


class Told(unittest.TestCase):
    def held(self, web, weights, kept):
        """That what is told is right, but for how much the least cut weighs; what is told."""
        before = copy.deepcopy(weights)
        told = least_cut(web, weights, kept)
        self.assertEqual(weights, before)
        self.assertEqual(least_cut(web, weights, kept), told)
        self.assertIs(type(told), tuple)
        if not kept_clear(web, kept):
            self.assertEqual(len(told), 2)
            self.assertEqual(told[0], "never")
            self.assertIs(type(told[1]), tuple)
            self.assertTrue(plain_ring(web, told[1]))
            self.assertLessEqual(set(told[1]), set(kept))
            return told
        self.assertEqual(len(told), 4)
        self.assertEqual(told[0], "cut")
        self.assertIs(type(told[1]), int)
        self.assertIs(type(told[2]), tuple)
        self.assertEqual(told[2], tuple(sorted(set(told[2]))))
        self.assertLessEqual(set(told[2]), set(range(web[0])) - set(kept))
        self.assertTrue(plain_clears(web, told[2]))
        self.assertEqual(told[1], weigh(weights, told[2]))
        self.assertIs(type(told[3]), tuple)
        # By 6.3 no set weighs less than what a tree shows: so it is the least.
        self.assertEqual(plain_shows(web, weights, kept, told[3]), ("least", told[1]))
        self.assertEqual(tree_shows(web, weights, kept, told[3]), ("least", told[1]))
        return told

    def least(self, web, weights, kept=()):
        """The least weight, None where there is none."""
        told = self.held(web, weights, kept)
        return told[1] if told[0] == "cut" else None


class Small(Told):
    def test_against_a_search(self):
        rng = random.Random(611)
        words = []
        for web in small_webs(611, 400):
            for k in range(2):
                weights = drawn_weights(rng, web[0])
                kept = tuple(place for place in range(web[0]) if rng.random() < rng.choice((0, 0.2, 0.5, 0.8)))
                told = self.held(web, weights if k else tuple(weights), kept)
                self.assertEqual(told[1] if told[0] == "cut" else None, plain_least(web, weights, kept))
                words.append(told[0])
        self.assertGreater(words.count("cut"), 100)
        self.assertGreater(words.count("never"), 30)

    def test_each_kept_set_of_some_webs(self):
        webs = [whole_web(4), theta(3), joined(circle(3), looped()), plain_web(4, [(0, 1)] * 2 + [(1, 2), (2, 3)] * 2),
                plain_web(5, [(0, 0), (0, 1), (1, 2), (0, 2), (2, 3), (3, 4), (2, 4)])]
        for web in webs:
            weights = [3, 1, 4, 1, 5][:web[0]]
            for kept in all_sets(web[0]):
                self.assertEqual(self.least(web, weights, kept), plain_least(web, weights, kept))

    def test_seven_and_eight_places(self):
        rng = random.Random(612)
        for k in range(40):
            many = rng.choice((7, 8))
            web = drawn_plain(rng, many, rng.randrange(many, 2 * many + 3))
            weights = drawn_weights(rng, many)
            kept = drawn_set(rng, many, rng.randrange(4))
            self.assertEqual(self.least(web, weights, kept), plain_least(web, weights, kept))

    def test_edges(self):
        self.assertEqual(least_cut(bare(0), [], ()), ("cut", 0, (), least_cut(bare(0), [], ())[3]))
        for web in (bare(0), bare(3), bare(40), plain_web(4, [(0, 1), (1, 2), (2, 3)])):
            self.assertEqual(self.held(web, [5] * web[0], ())[1:3], (0, ()))
            self.assertEqual(self.held(web, [5] * web[0], tuple(range(web[0])))[1:3], (0, ()))
        self.assertEqual(self.held(looped(), [9], ())[:3], ("cut", 9, (0,)))
        self.assertEqual(self.held(looped(), [0], ())[:3], ("cut", 0, (0,)))
        self.assertEqual(self.held(looped(), [9], (0,)), ("never", (0,)))
        self.assertEqual(self.held(plain_web(2, [(0, 1)] * 2), [8, 9], ())[:3], ("cut", 8, (0,)))
        self.assertEqual(self.held(plain_web(2, [(0, 1)] * 2), [8, 9], (0,))[:3], ("cut", 9, (1,)))
        self.assertEqual(sorted(self.held(plain_web(2, [(0, 1)] * 2), [8, 9], (0, 1))[1]), [0, 1])

    def test_weights_of_nought_and_great_ones(self):
        web = whole_web(5)
        self.assertEqual(self.least(web, [0] * 5), 0)
        self.assertEqual(self.least(web, [10 ** 60] * 5), 3 * 10 ** 60)
        self.assertEqual(self.held(web, [0, 10 ** 60, 0, 10 ** 60, 0], ())[1:3], (0, (0, 2, 4)))
        self.assertEqual(self.held(web, [0, 10 ** 60, 0, 10 ** 60, 0], (0,))[1], 10 ** 60)
        self.assertEqual(self.least(circle(4), [10 ** 60, 10 ** 60 - 1, 10 ** 60, 10 ** 60]), 10 ** 60 - 1)
        self.assertEqual(self.least(circle(4), [10 ** 60, 10 ** 60 - 1, 10 ** 60, 10 ** 60], (1,)), 10 ** 60)

    def test_lighter_is_not_fewer(self):
        # Two light places in the place of the one that all rings have in common.
        web = plain_web(5, [(0, 1), (1, 2), (0, 2), (2, 3), (3, 4), (2, 4)])
        self.assertEqual(self.held(web, [1, 9, 5, 1, 9], ())[1:3], (2, (0, 3)))
        self.assertEqual(self.held(web, [3, 9, 5, 3, 9], ())[1:3], (5, (2,)))
        self.assertEqual(self.held(web, [3, 9, 5, 3, 9], (2,))[1:3], (6, (0, 3)))
        self.assertEqual(self.held(web, [3, 9, 5, 3, 9], (0, 2))[1:3], (12, (1, 3)))


class Never(Told):
    def test_just_where_kept_places_hold_a_ring(self):
        web = joined(circle(3), plain_web(2, [(0, 1)] * 2), looped(), circle(4))
        for kept in all_sets(web[0]):
            rings = [{0, 1, 2}, {3, 4}, {5}, {6, 7, 8, 9}]
            told = self.held(web, [1] * 10, kept)
            self.assertEqual(told[0] == "never", any(ring <= set(kept) for ring in rings))

    def test_large_webs(self):
        for many in (20, 40):
            web = circle(many)
            self.assertEqual(self.held(web, [1] * many, tuple(range(many)))[0], "never")
            self.assertEqual(self.held(web, [1] * many, tuple(range(1, many)))[:3], ("cut", 1, (0,)))
        web = whole_web(20)
        self.assertEqual(self.held(web, [1] * 20, tuple(range(6, 20)))[0], "never")
        self.assertEqual(self.held(web, [1] * 20, tuple(range(20)))[0], "never")


class Refused(Told):
    def test_fourteen_and_fifteen(self):
        for more in (0, 1, 25):
            web = joined(whole_web(14), bare(more))
            self.assertEqual(self.least(web, [1] * web[0]), 12)
            web = joined(whole_web(15), bare(more))
            with self.assertRaises(TooMany):
                least_cut(web, [1] * web[0], ())
            for place in range(15):
                self.assertEqual(self.least(web, [1] * web[0], (place,)), 13)

    def test_ahead_of_telling_either(self):
        # The kept places hold a ring here; and here there is no ring at all.
        web = joined(circle(3), circle(15))
        with self.assertRaises(TooMany):
            least_cut(web, [1] * 18, (0, 1, 2))
        self.assertEqual(self.held(web, [1] * 18, (0, 1, 2, 9))[0], "never")
        wood = plain_web(16, [(place, place + 1) for place in range(15)])
        with self.assertRaises(TooMany):
            least_cut(wood, [0] * 16, ())
        with self.assertRaises(TooMany):
            least_cut(wood, [0] * 16, (7,))
        self.assertEqual(self.least(wood, [0] * 16, (3, 7)), 0)

    def test_loops_and_several_ties_count_as_ties(self):
        for web in (joined(*[looped()] * 15), plain_web(16, [(0, place) for place in range(1, 16)] * 2)):
            kept = () if web[0] == 15 else (0,)
            with self.assertRaises(TooMany):
                least_cut(web, [1] * web[0], kept)
            less = plain_cut(web, (web[0] - 1,))
            self.assertEqual(self.least(less, [1] * web[0], kept), 14)

    def test_kept_places_do_not_count(self):
        web = joined(*[circle(4)] * 10)
        kept = tuple(place for place in range(40) if place % 4)
        self.assertEqual(self.held(web, [1] * 40, kept)[1:3], (10, tuple(range(0, 40, 4))))
        free = kept[5:]
        with self.assertRaises(TooMany):
            least_cut(web, [1] * 40, free)
        self.assertEqual(self.least(web, [1] * 40, kept[4:]), 10)


class Large(Told):
    def test_forty_places_and_two_hundred_ties(self):
        rng = random.Random(621)
        for seed in range(6):
            web, kept = fourteen_open(seed)
            self.assertEqual((web[0], len(web[1])), (40, 200))
            for weights in ([1] * 40, [rng.randrange(1, 9) for place in range(40)], drawn_weights(rng, 40)):
                with soon():
                    self.held(web, weights, kept)

    def test_one_more_is_too_many(self):
        web, kept = fourteen_open(7)
        for place in (0, 11, 25):
            fewer = kept[:place] + kept[place + 1:]
            if any(14 + place in tie for tie in web[1]):
                with self.assertRaises(TooMany):
                    least_cut(web, [1] * 40, fewer)

    def test_few_ties(self):
        rng = random.Random(622)
        for ties in (30, 40, 50, 60, 80):
            web, kept = fourteen_open(ties, ties)
            with soon():
                self.held(web, drawn_weights(rng, 40), kept)

    def test_fourteen_places_alone(self):
        rng = random.Random(623)
        for ties in (14, 17, 20, 24, 30, 45, 70):
            for web in (drawn_plain(rng, 14, ties), drawn_web(rng, 14, ties)):
                for weights in ([1] * 14, drawn_weights(rng, 14)):
                    with soon():
                        self.held(web, weights, ())

    def test_woven_webs(self):
        rng = random.Random(624)
        for knots in (2, 3, 5, 8, 13, 26):
            for extra in (0, 10, 30):
                web, kept = woven(knots + extra, knots, 2, extra)
                for weights in ([1] * web[0], drawn_weights(rng, web[0])):
                    with soon():
                        self.held(web, weights, kept)

    def test_known_webs(self):
        self.assertEqual(self.least(whole_web(14), [1] * 14), 12)
        self.assertEqual(self.least(whole_web(14), list(range(14))), sum(range(12)))
        pairs = [(a, b) for a in range(7) for b in range(7, 14)]
        self.assertEqual(self.least(plain_web(14, pairs), [1] * 14), 6)
        self.assertEqual(self.least(theta(12), [1] * 14), 1)
        self.assertEqual(self.least(theta(12), [20] * 2 + [1] * 12), 11)
        self.assertEqual(self.least(theta(38), [1] * 40, tuple(range(14, 40)) + ()), 1)
        self.assertEqual(self.least(joined(*[looped()] * 14), [7] * 14), 98)
        self.assertEqual(self.least(joined(circle(3), circle(4), circle(7)), [2] * 14), 6)
        self.assertEqual(self.least(whole_chain(4, 4), [1] * 13), plain_least(whole_chain(4, 4), [1] * 13, ()))

    def test_all_ties_are_one(self):
        web = plain_web(40, [(3, 30)] * 200)
        self.assertEqual(self.held(web, [4] * 40, ())[1], 4)
        self.assertEqual(self.held(web, [4] * 40, (3,))[1:3], (4, (30,)))
        web = plain_web(40, [(39, 39)] * 200)
        self.assertEqual(self.held(web, [4] * 40, ())[1:3], (4, (39,)))


class Changed(Told):
    """What changes a web by little changes the least weight as the points say."""

    def cases(self, seed, count):
        rng = random.Random(seed)
        for web in small_webs(seed, count, 7):
            weights = drawn_weights(rng, web[0])
            kept = tuple(place for place in range(web[0]) if rng.random() < 0.2)
            yield rng, web, weights, kept

    def test_a_tie_more_and_a_tie_less(self):
        for rng, web, weights, kept in self.cases(631, 150):
            if web[0]:
                old = self.least(web, weights, kept)
                tie = tuple(sorted((rng.randrange(web[0]), rng.randrange(web[0]))))
                new = self.least(plain_web(web[0], web[1] + (tie,)), weights, kept)
                free = [weights[place] for place in tie if place not in kept]
                if old is None:
                    self.assertIsNone(new)
                elif new is not None:
                    self.assertLessEqual(old, new)
                if old is not None and free:
                    # With one end of the tie the old cut clears.
                    self.assertLessEqual(new, old + min(free))

    def test_two_webs_side_by_side(self):
        for rng, web, weights, kept in self.cases(632, 120):
            other = drawn_web(rng, 5, rng.randrange(10))
            more = drawn_weights(rng, 5)
            both = self.least(joined(web, other), weights + more, kept)
            alone = (self.least(web, weights, kept), self.least(other, more))
            self.assertEqual(both, None if None in alone else sum(alone))

    def test_places_renamed(self):
        for rng, web, weights, kept in self.cases(633, 120):
            order = rng.sample(range(web[0]), web[0])
            moved = plain_web(web[0], [(order[a], order[b]) for a, b in web[1]])
            row = [0] * web[0]
            for place in range(web[0]):
                row[order[place]] = weights[place]
            told = self.least(moved, row, tuple(sorted(order[place] for place in kept)))
            self.assertEqual(told, self.least(web, weights, kept))

    def test_one_more_place_kept(self):
        for rng, web, weights, kept in self.cases(634, 120):
            old = self.held(web, weights, kept)
            for place in range(web[0]):
                if place not in kept:
                    new = self.least(web, weights, tuple(sorted(kept + (place,))))
                    if old[0] == "never":
                        self.assertIsNone(new)
                    elif place not in old[2]:
                        self.assertEqual(new, old[1])
                    elif new is not None:
                        self.assertGreaterEqual(new, old[1])

    def test_a_place_without_ties_more(self):
        for rng, web, weights, kept in self.cases(635, 80):
            told = self.least(joined(web, bare(3)), weights + [0, 1, 10 ** 60], kept)
            self.assertEqual(told, self.least(web, weights, kept))

    def test_all_weights_times_a_number(self):
        for rng, web, weights, kept in self.cases(636, 80):
            old = self.least(web, [weight // 7 for weight in weights], kept)
            new = self.least(web, [weight // 7 * 7 for weight in weights], kept)
            self.assertEqual(new, None if old is None else 7 * old)


class Own(Told):
    def test_told_lists_are_the_askers_own(self):
        web = joined(whole_web(4), circle(3), looped())
        told = least_cut(web, [1] * 8, ())
        kept = copy.deepcopy(told)
        for leaf in all_leaves(told[3]):
            if leaf[0] == "shares":
                leaf[1].append(((0,), 1))
                leaf[1].reverse()
        self.assertEqual(least_cut(web, [1] * 8, ()), kept)
        self.assertEqual(tree_shows(web, [1] * 8, (), kept[3]), ("least", kept[1]))

    def test_each_told_list_is_another(self):
        web = joined(whole_web(5), whole_web(5))
        told = least_cut(web, [1] * 10, ())
        lists = [leaf[1] for leaf in all_leaves(told[3]) if leaf[0] == "shares"]
        self.assertGreater(len(lists), 2)
        self.assertTrue(all(type(rows) is list for rows in lists))
        self.assertEqual(len({id(rows) for rows in lists}), len(lists))

    def test_arguments_by_their_names(self):
        self.assertEqual(least_cut(kept=(1,), weights=[2, 0, 3], web=circle(3))[:3], ("cut", 2, (0,)))


if __name__ == "__main__":
    unittest.main()
