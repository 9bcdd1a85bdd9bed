"""11.1, 11.3: least cuts of one-way webs with their trees of cases, and 0.2, 0.4 as far as they speak of them."""

import copy
import random
import unittest

from ringfell.errors import TooMany
from ringfell.onecases import one_least
from ringfell.onejudge import one_shows
from tests.helpers import all_sets, drawn_set, soon
from tests.trees import ROUNDS, all_leaves, drawn_weights, plain_least, plain_shows, weigh
from tests.ways import (all_pairs, behind, circled, drawn_oneway, oneway, plain_clearing, plain_round, small_oneways,
                        whole_oneway)

LOOPED = (1, ((0, 0),))


def kept_free(web, kept):
    """Whether the kept places hold no round."""
    return plain_clearing(web, [place for place in range(web[0]) if place not in kept])


def fourteen_open(seed, arrows, inner):
    """Forty places, twenty-six of them kept and without a round among them, their places mixed."""
    rng = random.Random(seed)
    order = rng.sample(range(40), 40)
    low = [(order[a], order[b]) for a in range(14, 40) for b in range(a + 1, 40)]
    rest = [(order[a], order[b]) for a, b in all_pairs(40, seed % 2 == 0) if min(a, b) < 14]
    web = oneway(40, rng.sample(low, inner) + rng.sample(rest, arrows - inner))
    return web, tuple(sorted(order[14:]))


class Told(unittest.TestCase):
    def held(self, web, weights, kept):
        """That what is told is right; what is told."""
        before = copy.deepcopy(weights)
        told = one_least(web, weights, kept)
        self.assertEqual(weights, before)
        self.assertEqual(one_least(web, weights, kept), told)
        self.assertIs(type(told), tuple)
        if not kept_free(web, kept):
            self.assertEqual(len(told), 2)
            self.assertEqual(told[0], "never")
            self.assertIs(type(told[1]), tuple)
            self.assertTrue(plain_round(web, told[1]))
            self.assertLessEqual(set(told[1]), set(kept))
            return told
        self.assertEqual(len(told), 4)
        self.assertEqual(told[0], "cut")
        self.assertIs(type(told[1]), int)
        self.assertIs(type(told[2]), tuple)
        self.assertEqual(told[2], tuple(sorted(set(told[2]))))
        self.assertLessEqual(set(told[2]), set(range(web[0])) - set(kept))
        self.assertTrue(plain_clearing(web, told[2]))
        self.assertEqual(told[1], weigh(weights, told[2]))
        self.assertIs(type(told[3]), tuple)
        # By 6.3 no set weighs less than what a tree shows: so it is the least.
        self.assertEqual(plain_shows(web, weights, kept, told[3], ROUNDS), ("least", told[1]))
        self.assertEqual(one_shows(web, weights, kept, told[3]), ("least", told[1]))
        return told

    def least(self, web, weights, kept=()):
        """The least weight, None where there is none."""
        told = self.held(web, weights, kept)
        return told[1] if told[0] == "cut" else None


class Small(Told):
    def test_against_a_search(self):
        rng = random.Random(1401)
        words = []
        for web in small_oneways(1402, 400, 6):
            for k in range(2):
                weights = drawn_weights(rng, web[0])
                kept = tuple(place for place in range(web[0]) if rng.random() < rng.choice((0, 0.2, 0.5, 0.8)))
                told = self.held(web, weights if k else tuple(weights), kept)
                self.assertEqual(told[1] if told[0] == "cut" else None, plain_least(web, weights, kept, ROUNDS))
                words.append(told[0])
        self.assertGreater(words.count("cut"), 100)
        self.assertGreater(words.count("never"), 30)

    def test_each_kept_set_of_some_webs(self):
        webs = [whole_oneway(4), behind(circled(3), LOOPED), oneway(5, [(0, 1), (1, 2), (2, 0), (2, 3), (3, 4), (4, 2)]),
                oneway(5, [(a, b) for a in range(5) for b in range(5) if (b - a) % 5 in (1, 2)])]
        for web in webs:
            weights = [3, 1, 4, 1, 5][:web[0]]
            for kept in all_sets(web[0]):
                self.assertEqual(self.least(web, weights, kept), plain_least(web, weights, kept, ROUNDS))

    def test_seven_and_eight_places(self):
        rng = random.Random(1403)
        for k in range(60):
            many = rng.choice((7, 8))
            web = drawn_oneway(rng, many, rng.randrange(many, 4 * many), k % 3 == 0)
            weights = drawn_weights(rng, many)
            kept = drawn_set(rng, many, rng.randrange(4))
            self.assertEqual(self.least(web, weights, kept), plain_least(web, weights, kept, ROUNDS))

    def test_edges(self):
        self.assertEqual(self.held((0, ()), [], ())[:3], ("cut", 0, ()))
        for web in ((0, ()), (3, ()), (40, ()), oneway(4, [(0, 1), (1, 2), (2, 3)]), oneway(3, [(0, 1), (0, 2), (1, 2)])):
            self.assertEqual(self.held(web, [5] * web[0], ())[1:3], (0, ()))
            self.assertEqual(self.held(web, [5] * web[0], tuple(range(web[0])))[1:3], (0, ()))
        self.assertEqual(self.held(LOOPED, [9], ())[:3], ("cut", 9, (0,)))
        self.assertEqual(self.held(LOOPED, [0], ())[:3], ("cut", 0, (0,)))
        self.assertEqual(self.held(LOOPED, [9], (0,)), ("never", (0,)))
        both = oneway(2, [(0, 1), (1, 0)])
        self.assertEqual(self.held(both, [8, 9], ())[:3], ("cut", 8, (0,)))
        self.assertEqual(self.held(both, [8, 9], (0,))[:3], ("cut", 9, (1,)))
        self.assertEqual(sorted(self.held(both, [8, 9], (0, 1))[1]), [0, 1])

    def test_weights_of_nought_and_great_ones(self):
        web = whole_oneway(5)
        self.assertEqual(self.least(web, [0] * 5), 0)
        self.assertEqual(self.least(web, [10 ** 60] * 5), 4 * 10 ** 60)
        self.assertEqual(self.held(web, [0, 10 ** 60, 0, 0, 0], ())[1:3], (0, (0, 2, 3, 4)))
        self.assertEqual(self.held(web, [0, 10 ** 60, 0, 0, 0], (0,))[1], 10 ** 60)
        self.assertEqual(self.least(circled(4), [10 ** 60, 10 ** 60 - 1, 10 ** 60, 10 ** 60]), 10 ** 60 - 1)
        self.assertEqual(self.least(circled(4), [10 ** 60, 10 ** 60 - 1, 10 ** 60, 10 ** 60], (1,)), 10 ** 60)

    def test_lighter_is_not_fewer(self):
        web = oneway(5, [(0, 1), (1, 2), (2, 0), (2, 3), (3, 4), (4, 2)])
        self.assertEqual(self.held(web, [1, 9, 5, 1, 9], ())[1:3], (2, (0, 3)))
        self.assertEqual(self.held(web, [3, 9, 5, 3, 9], ())[1:3], (5, (2,)))
        self.assertEqual(self.held(web, [3, 9, 5, 3, 9], (2,))[1:3], (6, (0, 3)))

    def test_the_direction_matters(self):
        self.assertEqual(self.least(oneway(3, [(0, 1), (1, 2), (0, 2)]), [1] * 3), 0)
        self.assertEqual(self.least(oneway(3, [(0, 1), (1, 2), (2, 0)]), [1] * 3), 1)
        # Through a kept place ways cross: there and back by it alone a round would have it twice.
        web = oneway(5, [(0, 4), (4, 1), (2, 4), (4, 3), (1, 2), (3, 0)])
        for kept in all_sets(5):
            self.assertEqual(self.least(web, [2, 3, 5, 7, 1], kept), plain_least(web, [2, 3, 5, 7, 1], kept, ROUNDS))


class Never(Told):
    def test_just_where_kept_places_hold_a_round(self):
        web = behind(circled(3), oneway(2, [(0, 1), (1, 0)]), LOOPED, circled(4))
        for kept in all_sets(web[0]):
            rows = [{0, 1, 2}, {3, 4}, {5}, {6, 7, 8, 9}]
            told = self.held(web, [1] * 10, kept)
            self.assertEqual(told[0] == "never", any(row <= set(kept) for row in rows))

    def test_large_webs(self):
        for many in (20, 40):
            web = circled(many)
            self.assertEqual(self.held(web, [1] * many, tuple(range(many)))[0], "never")
            self.assertEqual(self.held(web, [1] * many, tuple(range(1, many)))[:3], ("cut", 1, (0,)))
        self.assertEqual(self.held(whole_oneway(14), [1] * 14, (3, 9))[0], "never")


class Refused(Told):
    def test_fourteen_and_fifteen(self):
        whole = drawn_oneway(random.Random(1411), 15, 200, False)
        for more in (0, 1, 25):
            web = behind(whole_oneway(14), (more, ()))
            self.assertEqual(self.least(web, [1] * web[0]), 13)
            web = behind(whole, (more, ()))
            with self.assertRaises(TooMany):
                one_least(web, [1] * web[0], ())
            for place in range(15):
                with soon():
                    self.held(web, [1] * web[0], (place,))

    def test_ahead_of_telling_either(self):
        # The kept places hold a round here; and here there is no round at all.
        web = behind(circled(3), circled(15))
        with self.assertRaises(TooMany):
            one_least(web, [1] * 18, (0, 1, 2))
        self.assertEqual(self.held(web, [1] * 18, (0, 1, 2, 9))[0], "never")
        row = oneway(16, [(place, place + 1) for place in range(15)])
        with self.assertRaises(TooMany):
            one_least(row, [0] * 16, ())
        with self.assertRaises(TooMany):
            one_least(row, [0] * 16, (7,))
        self.assertEqual(self.least(row, [0] * 16, (3, 7)), 0)

    def test_arrows_from_a_place_and_to_it(self):
        loops = behind(*[LOOPED] * 15)
        out = oneway(16, [(0, place) for place in range(1, 16)])
        into = oneway(16, [(place, 0) for place in range(1, 16)])
        for web, kept in ((loops, ()), (out, (0,)), (into, (0,))):
            with self.assertRaises(TooMany):
                one_least(web, [1] * web[0], kept)
            last = web[0] - 1
            less = (web[0], tuple(arrow for arrow in web[1] if last not in arrow))
            self.assertEqual(self.least(less, [1] * web[0], kept), 14 if web == loops else 0)
            self.assertEqual(self.least(web, [1] * web[0], kept + (last,)) is None, web == loops)

    def test_kept_places_do_not_count(self):
        web = behind(*[circled(4)] * 10)
        kept = tuple(place for place in range(40) if place % 4)
        self.assertEqual(self.held(web, [1] * 40, kept)[1:3], (10, tuple(range(0, 40, 4))))
        with self.assertRaises(TooMany):
            one_least(web, [1] * 40, kept[5:])
        self.assertEqual(self.least(web, [1] * 40, kept[4:]), 10)


class Large(Told):
    def test_forty_places_and_two_hundred_arrows(self):
        rng = random.Random(1421)
        for seed in range(12):
            web, kept = fourteen_open(seed, 200, (0, 20, 60, 100)[seed % 4])
            self.assertEqual((web[0], len(web[1])), (40, 200))
            for weights in ([1] * 40, [rng.randrange(1, 9) for place in range(40)], drawn_weights(rng, 40)):
                with soon():
                    self.held(web, weights, kept)

    def test_few_arrows(self):
        rng = random.Random(1422)
        for arrows in (30, 40, 50, 60, 80, 120):
            for inner in (5, 20):
                web, kept = fourteen_open(arrows, arrows, inner)
                with soon():
                    self.held(web, drawn_weights(rng, 40), kept)

    def test_fourteen_places_alone(self):
        rng = random.Random(1423)
        for arrows in (14, 20, 28, 36, 45, 60, 80, 120, 170):
            web = drawn_oneway(rng, 14, arrows, False)
            for weights in ([1] * 14, drawn_weights(rng, 14)):
                with soon():
                    self.held(web, weights, ())

    def test_one_arrow_between_each_two(self):
        rng = random.Random(1424)
        for k in range(6):
            web = oneway(14, [rng.choice(((a, b), (b, a))) for a in range(14) for b in range(a)])
            for weights in ([1] * 14, [rng.randrange(1, 9) for place in range(14)], drawn_weights(rng, 14)):
                with soon():
                    self.held(web, weights, ())

    def test_known_webs(self):
        self.assertEqual(self.least(whole_oneway(14), [1] * 14), 13)
        self.assertEqual(self.least(whole_oneway(14), list(range(14))), sum(range(13)))
        self.assertEqual(self.least(behind(circled(3), circled(4), circled(7)), [2] * 14), 6)
        self.assertEqual(self.least(behind(*[LOOPED] * 14), [7] * 14), 98)
        # No round at all, with as many arrows as can be.
        low = [(a, b) for a in range(20) for b in range(a + 1, 20)]
        self.assertEqual(self.least(oneway(20, low), [1] * 20, tuple(range(6))), 0)


class Changed(Told):
    """What changes a web by little changes the least weight as the points say."""

    def cases(self, seed, count):
        rng = random.Random(seed)
        for web in small_oneways(seed, count, 6):
            weights = drawn_weights(rng, web[0])
            kept = tuple(place for place in range(web[0]) if rng.random() < 0.2)
            yield rng, web, weights, kept

    def test_an_arrow_more(self):
        for rng, web, weights, kept in self.cases(1431, 150):
            if web[0]:
                old = self.least(web, weights, kept)
                pair = (rng.randrange(web[0]), rng.randrange(web[0]))
                new = self.least(oneway(web[0], web[1] + (pair,)), weights, kept)
                if old is None:
                    self.assertIsNone(new)
                elif new is not None:
                    self.assertLessEqual(old, new)

    def test_all_arrows_turned(self):
        for rng, web, weights, kept in self.cases(1432, 100):
            about = oneway(web[0], [(b, a) for a, b in web[1]])
            self.assertEqual(self.least(about, weights, kept), self.least(web, weights, kept))

    def test_two_webs_one_behind_the_other(self):
        for rng, web, weights, kept in self.cases(1433, 100):
            other = drawn_oneway(rng, 5, rng.randrange(12))
            more = drawn_weights(rng, 5)
            both = behind(web, other)
            if web[0]:
                # Arrows from the one to the other alone close no round.
                both = oneway(both[0], both[1] + ((0, web[0]), (web[0] - 1, web[0] + 2)))
            told = self.least(both, weights + more, kept)
            alone = (self.least(web, weights, kept), self.least(other, more))
            self.assertEqual(told, None if None in alone else sum(alone))


class Own(Told):
    def test_told_lists_are_the_askers_own(self):
        web = behind(whole_oneway(4), circled(3), LOOPED)
        told = one_least(web, [1] * 8, ())
        kept = copy.deepcopy(told)
        for leaf in all_leaves(told[3]):
            if leaf[0] == "shares":
                leaf[1].append(((0,), 1))
                leaf[1].reverse()
        self.assertEqual(one_least(web, [1] * 8, ()), kept)
        self.assertEqual(one_shows(web, [1] * 8, (), kept[3]), ("least", kept[1]))

    def test_each_told_list_is_another(self):
        web = oneway(7, [(a, b) for a in range(7) for b in range(7) if (b - a) % 7 in (1, 2, 4)])
        told = one_least(web, [1] * 7, ())
        lists = [leaf[1] for leaf in all_leaves(told[3]) if leaf[0] == "shares"]
        self.assertTrue(all(type(rows) is list for rows in lists))
        self.assertEqual(len({id(rows) for rows in lists}), len(lists))

    def test_what_is_handed_in_is_not_kept(self):
        weights = [1, 2, 3]
        told = one_least(circled(3), weights, ())
        kept = copy.deepcopy(told)
        weights[0] = 9
        self.assertEqual(told, kept)

    def test_arguments_by_their_names(self):
        self.assertEqual(one_least(kept=(1,), weights=[2, 0, 3], web=circled(3))[:3], ("cut", 2, (0,)))


if __name__ == "__main__":
    unittest.main()
