"""7.4: a set within twice a paper's bound, and 0.2 as far as it speaks of it."""

import copy
import random
import unittest

from ringfell.cases import least_cut
from ringfell.layerjudge import paper_bound
from ringfell.layers import two_times
from tests.helpers import (bare, circle, drawn_plain, drawn_web, joined, large_webs, looped, plain_clears, plain_web,
                           renamed, small_webs, soon, theta, three_tied, whole_chain, whole_web)
from tests.papers import pair_of, plain_bound
from tests.trees import drawn_weights, plain_least, weigh


def spoked(many):
    """A circle, each of its places tied to one in the midst."""
    return plain_web(many + 1, list(circle(many)[1]) + [(place, many) for place in range(many)])


def beaded(count, size):
    """Rings that all have one common place, and no other one."""
    pairs = []
    for number in range(count):
        row = [0] + [1 + number * (size - 1) + k for k in range(size - 1)]
        pairs += [(row[at - 1], row[at]) for at in range(size)]
    return plain_web(1 + count * (size - 1), pairs)


def pulled(many):
    """Whole webs with a long way in the place of each tie's half: places of two ties beside full ones."""
    pairs = []
    at = many
    for a in range(many):
        for b in range(a + 1, many):
            pairs += [(a, at), (at, b)]
            at += 1
    return plain_web(at, pairs)


def hung(many, size):
    """A circle with a further ring at each of its places."""
    pairs = list(circle(many)[1])
    for place in range(many):
        row = [place] + [many + place * (size - 1) + k for k in range(size - 1)]
        pairs += [(row[at - 1], row[at]) for at in range(size)]
    return plain_web(many * size, pairs)


def row_weights(rng, many):
    """Weights of each sort: alike, unlike, nought at some places and at all, of sixty figures."""
    return [[1] * many, [10 ** 60] * many, [0] * many, [rng.randrange(1, 10) for place in range(many)],
            [rng.choice((0, 1, 2, 5)) for place in range(many)],
            [rng.choice((1, 1, 1, 1000)) for place in range(many)],
            [rng.randrange(10 ** 59, 10 ** 60) for place in range(many)],
            [rng.choice((0, 1, rng.randrange(10 ** 60))) for place in range(many)]]


class Twice(unittest.TestCase):
    def held(self, web, weights):
        """That what is told is right; what it weighs."""
        before = copy.deepcopy(weights)
        told = two_times(web, weights)
        self.assertEqual(weights, before)
        self.assertEqual(two_times(web, tuple(weights)), told)
        self.assertIs(type(told), tuple)
        places, paper = told
        self.assertIs(type(places), tuple)
        self.assertIs(type(paper), list)
        self.assertEqual(places, tuple(sorted(set(places))))
        self.assertLessEqual(set(places), set(range(web[0])))
        self.assertTrue(plain_clears(web, places))
        for place in places:
            self.assertFalse(plain_clears(web, [other for other in places if other != place]))
        bound = plain_bound(web, weights, paper)
        self.assertIsNotNone(bound)
        self.assertEqual(paper_bound(web, weights, paper), pair_of(bound))
        weight = weigh(weights, places)
        self.assertLessEqual(weight, 2 * bound)
        if plain_clears(web, [place for place in range(web[0]) if weights[place] == 0]):
            self.assertEqual(weight, 0)
            self.assertEqual(paper, [])
        return weight

    def test_small_webs(self):
        rng = random.Random(741)
        for web in small_webs(741, 200):
            for k in range(3):
                weights = drawn_weights(rng, web[0])
                weight = self.held(web, weights)
                self.assertLessEqual(weight, 2 * plain_least(web, weights, ()))

    def test_against_least_cut(self):
        rng = random.Random(742)
        for k in range(60):
            many = rng.randrange(7, 15)
            web = rng.choice((drawn_plain(rng, many, rng.randrange(many, 3 * many)),
                              drawn_web(rng, many, rng.randrange(many, 3 * many))))
            for weights in rng.sample(row_weights(rng, many), 5):
                with soon():
                    self.assertLessEqual(self.held(web, weights), 2 * least_cut(web, weights, ())[1])

    def test_webs_with_places_of_two_ties(self):
        rng = random.Random(743)
        webs = [pulled(4), pulled(5), beaded(5, 4), beaded(3, 3), beaded(12, 2), theta(5), theta(20), spoked(6),
                spoked(13), joined(beaded(3, 3), circle(5), pulled(4)), whole_chain(5, 4), whole_chain(6, 3)]
        webs.append(plain_web(8, [(0, 1), (1, 2), (0, 2), (2, 3), (3, 4), (4, 5), (5, 6), (4, 6), (6, 7), (7, 7)]))
        for web in webs:
            for k in range(3):
                moved = renamed(rng, web)
                for weights in row_weights(rng, web[0]):
                    with soon():
                        self.held(moved, weights)

    def test_rings_with_one_place_of_more_ties(self):
        # By ties alone the light places of the circle would weigh far more than twice the bound.
        rng = random.Random(747)
        for many in (3, 5, 9):
            for size in (1, 2, 3, 4):
                if many * size + 4 <= 40:
                    web = joined(whole_web(4), hung(many, size))
                    for light in (1, 3, 10 ** 58):
                        weights = [light] * (4 + many) + [100 * light] * (web[0] - many - 4)
                        self.held(web, weights)
                        order = rng.sample(range(web[0]), web[0])
                        row = [0] * web[0]
                        for place in range(web[0]):
                            row[order[place]] = weights[place]
                        self.held(plain_web(web[0], [(order[a], order[b]) for a, b in web[1]]), row)

    def test_webs_with_three_ties_at_each_place(self):
        rng = random.Random(744)
        for web, length in three_tied():
            for weights in row_weights(rng, web[0]):
                with soon():
                    self.held(web, weights)

    def test_large_webs(self):
        rng = random.Random(745)
        for web in large_webs(745):
            for weights in rng.sample(row_weights(rng, web[0]), 4):
                with soon():
                    self.held(web, weights)

    def test_forty_places_and_two_hundred_ties(self):
        rng = random.Random(746)
        for k in range(4):
            web = rng.choice((drawn_plain, drawn_web))(rng, 40, 200)
            self.assertEqual((web[0], len(web[1])), (40, 200))
            for weights in row_weights(rng, 40):
                with soon():
                    self.held(web, weights)

    def test_edges(self):
        for web in (bare(0), bare(1), bare(40), plain_web(3, [(0, 1), (1, 2)])):
            for weight in (0, 1, 10 ** 60):
                self.assertEqual(two_times(web, [weight] * web[0]), ((), []))
        self.assertEqual(two_times(looped(), [0]), ((0,), []))
        self.assertEqual(two_times(looped(), [5])[0], (0,))
        self.assertEqual(self.held(circle(40), [3] * 39 + [2]), 2)
        self.assertEqual(self.held(plain_web(2, [(0, 1)] * 200), [10 ** 60, 10 ** 60 - 1]), 10 ** 60 - 1)

    def test_weights_of_nought(self):
        # All that weighs something lies beyond the rings, or is spared by what weighs nothing.
        web = joined(circle(3), looped(), plain_web(3, [(0, 1), (1, 2)]))
        self.assertEqual(two_times(web, [7, 0, 7, 0, 7, 7, 7]), ((1, 3), []))
        self.assertEqual(self.held(web, [7, 0, 7, 4, 0, 0, 0]), 4)
        self.assertEqual(self.held(whole_web(6), [0, 0, 0, 0, 9, 9]), 0)
        self.assertEqual(self.held(whole_web(6), [0, 0, 0, 9, 9, 9]), 9)

    def test_told_lists_are_the_askers_own(self):
        web = joined(whole_web(5), circle(4))
        told = two_times(web, [3] * 9)
        kept = copy.deepcopy(told)
        self.assertTrue(kept[1])
        told[1].append(None)
        told[1][0] = None
        self.assertEqual(two_times(web, [3] * 9), kept)

    def test_arguments_by_their_names(self):
        self.assertEqual(two_times(weights=[1, 0, 1], web=circle(3)), ((1,), []))


if __name__ == "__main__":
    unittest.main()
