"""7.2, 7.3: layers, papers and their bounds, and 0.2, 0.3 as far as they speak of them."""

import copy
import random
import unittest
from fractions import Fraction

from ringfell.layerjudge import layer_bound, layer_takes, paper_bound
from tests.helpers import (FAR, all_sets, bare, circle, joined, looped, plain_clears, plain_form, plain_web,
                           small_webs, soon, theta, three_tied, turned, whole_web)
from tests.papers import drawn_paper, pair_of, plain_adds, plain_bound, plain_takes, shrunk
from tests.trees import drawn_weights, swapped, weigh

FARS = (FAR, -FAR, 10 ** 60 - 1, 1 - 10 ** 60)


class Layers(unittest.TestCase):
    def held(self, web, layer):
        before = copy.deepcopy(layer)
        takes = layer_takes(web, layer)
        self.assertIs(type(takes), list)
        self.assertEqual(takes, [pair_of(took) for took in plain_takes(web, layer)])
        bound = layer_bound(web, layer)
        self.assertEqual(bound, pair_of(plain_adds(web, layer)))
        for ratio in takes + [bound]:
            self.assertIs(type(ratio), tuple)
            self.assertEqual([type(number) for number in ratio], [int, int])
        self.assertEqual(layer, before)

    def test_rings(self):
        self.assertEqual(layer_takes(circle(3), ("ring", (0, 1, 2), (2, 3))), [(2, 3)] * 3)
        self.assertEqual(layer_bound(circle(3), ("ring", (0, 1, 2), (2, 3))), (2, 3))
        web = joined(bare(1), circle(3), looped(), plain_web(2, [(0, 1)] * 4))
        for ring in ((1, 2, 3), (4,), (5, 6)):
            for share in ((1, 1), (1, 2), (7, 3), (FAR, 2), (1, FAR)):
                self.held(web, ("ring", ring, share))
        self.assertEqual(layer_takes(web, ("ring", (4,), (5, 2))), [(0, 1)] * 4 + [(5, 2)] + [(0, 1)] * 2)

    def test_ties(self):
        self.assertEqual(layer_takes(whole_web(4), ("ties", (0, 1, 2, 3), (1, 2))), [(1, 1)] * 4)
        self.assertEqual(layer_bound(whole_web(4), ("ties", (0, 1, 2, 3), (1, 2))), (3, 2))
        self.assertEqual(layer_takes(whole_web(4), ("ties", (0, 2, 3), (1, 2))), [(1, 2), (0, 1), (1, 2), (1, 2)])
        self.assertEqual(layer_bound(whole_web(4), ("ties", (0, 2, 3), (1, 2))), (1, 2))

    def test_loops_count_twice(self):
        self.assertEqual(layer_takes(looped(), ("ties", (0,), (3, 2))), [(3, 2)])
        self.assertEqual(layer_bound(looped(), ("ties", (0,), (3, 2))), (3, 2))
        web = plain_web(3, [(0, 0), (0, 0), (0, 1), (1, 1), (1, 2), (2, 2)])
        self.assertEqual(layer_takes(web, ("ties", (0, 1), (1, 1))), [(4, 1), (2, 1), (0, 1)])
        self.assertEqual(layer_bound(web, ("ties", (0, 1), (1, 1))), (3, 1))
        self.assertEqual(layer_takes(web, ("ties", (0, 1, 2), (1, 6))), [(2, 3), (1, 2), (1, 3)])
        self.assertEqual(layer_bound(web, ("ties", (0, 1, 2), (1, 6))), (2, 3))

    def test_small_webs(self):
        rng = random.Random(711)
        met = 0
        for web in small_webs(711, 150):
            for places in all_sets(web[0]):
                if places and shrunk(web, places) == places:
                    self.held(web, ("ties", places, pair_of(Fraction(rng.randrange(1, 20), rng.randrange(1, 20)))))
                    met += 1
        self.assertGreater(met, 200)

    def test_large_webs(self):
        for web in (whole_web(20), joined(whole_web(13), whole_web(13), circle(14)), three_tied()[-1][0]):
            everything = tuple(range(web[0]))
            self.held(web, ("ties", everything, (FAR, 3)))
            self.held(web, ("ties", everything, (1, 10 ** 60 - 1)))

    def test_told_lists_are_the_askers_own(self):
        layer = ("ties", (0, 1, 2), (1, 1))
        told = layer_takes(circle(3), layer)
        told.append((9, 9))
        told[0] = None
        self.assertEqual(layer_takes(circle(3), layer), [(1, 1)] * 3)


class Bounds(unittest.TestCase):
    def bound(self, web, weights, paper):
        """The bound, whatever the lists are, as a fraction; None where the paper doesn't hold."""
        before = copy.deepcopy((weights, paper))
        told = paper_bound(web, weights, paper)
        self.assertEqual((weights, paper), before)
        self.assertEqual(paper_bound(web, tuple(weights), tuple(paper)), told)
        self.assertEqual(paper_bound(web, list(weights), list(paper)), told)
        if told is None:
            return None
        self.assertIs(type(told), tuple)
        self.assertEqual([type(number) for number in told], [int, int])
        self.assertEqual(told, pair_of(Fraction(*told)))
        return Fraction(*told)


class Papers(Bounds):
    def test_the_empty_paper(self):
        for web in small_webs(712, 20) + [bare(0), bare(40)]:
            self.assertEqual(paper_bound(web, [0] * web[0], []), (0, 1))
            self.assertEqual(paper_bound(web, [5] * web[0], ()), (0, 1))

    def test_named_papers(self):
        web = plain_web(5, [(0, 1), (1, 2), (0, 2), (2, 3), (3, 4), (2, 4)])
        ring = ("ring", (0, 1, 2), (3, 2))
        other = ("ring", (2, 3, 4), (1, 2))
        ties = ("ties", (0, 1, 2, 3, 4), (1, 3))
        self.assertEqual(paper_bound(web, [2] * 5, [ring]), (3, 2))
        self.assertEqual(paper_bound(web, [2] * 5, [ring, other]), (2, 1))
        self.assertEqual(paper_bound(web, [2] * 5, [other, ring]), (2, 1))
        self.assertIsNone(paper_bound(web, [2] * 5, [ring, other, other]))
        self.assertEqual(paper_bound(web, [2, 2, 3, 2, 2], [ring, other, ties]), (8, 3))
        self.assertIsNone(paper_bound(web, [2, 2, 2, 2, 2], [ring, other, ties]))
        self.assertEqual(paper_bound(web, [1, 1, 1, 1, 1], [ties]), (2, 3))
        self.assertEqual(paper_bound(web, [1, 1, 1, 1, 1], [("ties", (2, 3, 4), (1, 1))]), (1, 1))

    def test_the_weight_to_the_last_and_beyond(self):
        web = plain_web(4, [(0, 1), (1, 2), (0, 2), (2, 3), (3, 3), (1, 3)])
        rings = [("ring", (0, 1, 2), (1, 1)), ("ring", (3,), (1, 1)), ("ring", (1, 2, 3), (1, 1))]
        layers = rings + [("ties", (0, 1, 2, 3), (1, 1)), ("ties", (3,), (1, 1)), ("ties", (1, 2, 3), (1, 1))]
        for layer in layers:
            takes = plain_takes(web, layer)
            for great in (1, 7, FAR, 10 ** 60):
                for place in range(4):
                    if takes[place]:
                        weights = [100 * great] * 4
                        weights[place] = great
                        share = great / takes[place]
                        told = self.bound(web, weights, [layer[:2] + (pair_of(share),)])
                        self.assertEqual(told, share * plain_adds(web, layer))
                        for less in (Fraction(1), Fraction(1, FAR), Fraction(1, 10 ** 60 - 1)):
                            above = layer[:2] + (pair_of(share + less),)
                            self.assertIsNone(self.bound(web, weights, [above]))
                        weights[place] = great - 1
                        self.assertIsNone(self.bound(web, weights, [layer[:2] + (pair_of(share),)]))

    def test_layers_together_take_to_the_last(self):
        web = circle(4)
        ring = (0, 1, 2, 3)
        thirds = [("ring", ring, (1, 3)), ("ties", ring, (1, 2)), ("ring", ring, (1, 6))]
        self.assertEqual(paper_bound(web, [1] * 4, thirds), (1, 1))
        for place in range(4):
            weights = [1] * 4
            weights[place] = 0
            self.assertIsNone(self.bound(web, weights, thirds))
        self.assertIsNone(self.bound(web, [1] * 4, thirds + [("ring", ring, (1, FAR))]))
        self.assertEqual(self.bound(web, [1] * 4, [("ring", ring, (1, 40))] * 40), 1)
        self.assertIsNone(self.bound(web, [1] * 4, [("ring", ring, (1, 40))] * 41))

    def wrong(self, web, weights, layer):
        """That no paper with this layer holds, wherever it stands."""
        right = ("ring", (0, 1, 2), (1, 1))
        self.assertIsNotNone(self.bound(web, weights, [right, right]))
        for paper in ([layer], [layer, right], [right, layer], [right, layer, right]):
            self.assertIsNone(self.bound(web, weights, paper))

    def test_words_that_are_none(self):
        for word in ("", "Ring", "rings", "tie", "round", "part", "ring "):
            self.wrong(circle(3), [9] * 3, (word, (0, 1, 2), (1, 1)))

    def test_rings_that_are_none_or_not_in_their_form(self):
        web = plain_web(7, [(0, 1), (1, 2), (0, 2), (2, 3), (3, 4), (3, 4), (5, 5), (4, 5)])
        weights = [10 ** 60] * 7
        for ring in ((3, 4), (5,), (0, 1, 2)):
            self.assertEqual(self.bound(web, weights, [("ring", ring, (1, 1))]), 1)
        for ring in ((), (0,), (0, 1), (0, 1, 2, 3), (0, 1, 3), (0, 1, 2, 0), (5, 5), (2, 3, 4), (3, 4, 3, 4), (6,),
                     (4, 5), (0, 1, 7), (0, 1, -1), (7,), (-1,), (-2,), (0, 0), (4, 3)):
            self.wrong(web, weights, ("ring", ring, (1, 1)))
        for far in FARS:
            self.wrong(web, weights, ("ring", (far,), (1, 1)))
            self.wrong(web, weights, ("ring", (0, 1, far), (1, 1)))
            self.wrong(web, weights, ("ring", (far, 0, 1), (1, 1)))
        for ring in ((0, 1, 2), (3, 4)):
            for way in turned(ring):
                if way != plain_form(ring):
                    self.wrong(web, weights, ("ring", way, (1, 1)))
        web = whole_web(5)
        for way in turned((0, 2, 1, 4, 3)):
            told = self.bound(web, [9] * 5, [("ring", way, (1, 1))])
            self.assertEqual(told, 1 if way == (0, 2, 1, 4, 3) else None)

    def test_places_that_are_no_ties_layer(self):
        web = plain_web(8, [(0, 1), (1, 2), (0, 2), (2, 3), (3, 4), (4, 5), (3, 5), (6, 6)])
        weights = [10 ** 60] * 8
        for places in ((0, 1, 2), (3, 4, 5), (0, 1, 2, 3, 4, 5), (6,), (0, 1, 2, 6), (0, 1, 2, 3, 4, 5, 6)):
            self.assertIsNotNone(self.bound(web, weights, [("ties", places, (1, 1))]))
        for places in ((), (0,), (7,), (0, 1), (0, 1, 2, 3), (0, 1, 2, 7), (2, 3), (0, 1, 2, 3, 4), (0, 1, 3, 4, 5),
                       (1, 0, 2), (2, 1, 0), (0, 1, 1, 2), (0, 0, 1, 2), (0, 1, 2, 2), (6, 6), (0, 1, 2, 8),
                       (-1, 0, 1, 2), (-1,), (8,), (0, 2, 1), (6, 7), (-2,), (-8, 1, 2)):
            self.wrong(web, weights, ("ties", places, (1, 1)))
        for far in FARS:
            self.wrong(web, weights, ("ties", (far,), (1, 1)))
            self.wrong(web, weights, ("ties", tuple(sorted((0, 1, 2, far))), (1, 1)))

    def test_shares_that_are_none(self):
        web = joined(circle(3), looped())
        for share in ((0, 1), (-1, 1), (-1, 2), (2, 2), (2, 4), (1, 0), (0, 0), (0, 2), (1, -1), (-1, -1), (4, 2),
                      (-FAR, 1), (FAR, FAR), (FAR, 0), (1, -FAR), (2 * 10 ** 58, 4 * 10 ** 58), (FAR, -1), (-1, -FAR)):
            for places in ((0, 1, 2), (3,)):
                for word in ("ring", "ties"):
                    self.wrong(web, [10 ** 60] * 4, (word, places, share))
        for share in ((1, 1), (1, 2), (3, 2), (FAR, 1), (1, FAR), (FAR, FAR + 1)):
            for places in ((0, 1, 2), (3,)):
                for word in ("ring", "ties"):
                    self.assertEqual(self.bound(web, [10 ** 60] * 4, [(word, places, share)]), Fraction(*share))

    def test_shares_below_nought_make_no_room(self):
        web = circle(3)
        for word in ("ring", "ties"):
            paper = [(word, (0, 1, 2), (3, 1)), (word, (0, 1, 2), (-1, 1))]
            self.assertIsNone(self.bound(web, [2] * 3, paper))

    def test_weights_of_nought(self):
        web = joined(circle(3), circle(3))
        for word in ("ring", "ties"):
            self.assertIsNone(self.bound(web, [0] + [9] * 5, [(word, (0, 1, 2), (1, FAR))]))
            self.assertEqual(self.bound(web, [0] + [9] * 5, [(word, (3, 4, 5), (9, 1))]), 9)


class Drawn(Bounds):
    def test_papers_that_hold(self):
        rng = random.Random(713)
        layers = []
        for web in small_webs(713, 250):
            weights = drawn_weights(rng, web[0])
            paper = drawn_paper(rng, web, weights)
            wanted = plain_bound(web, weights, paper)
            self.assertIsNotNone(wanted)
            self.assertEqual(self.bound(web, weights, paper), wanted)
            layers += [layer[0] for layer in paper]
        self.assertGreater(min(layers.count("ring"), layers.count("ties")), 40)

    def test_papers_with_one_number_changed(self):
        rng = random.Random(714)
        wrong = 0
        for web in small_webs(714, 300):
            weights = drawn_weights(rng, web[0])
            paper = drawn_paper(rng, web, weights)
            count = swapped(paper, -1, None)[1]
            for k in range(6 if count else 0):
                number = rng.choice((0, 1, 2, 3, 4, 5, -1) + FARS)
                change = rng.choice((lambda old: number, lambda old: old + 1, lambda old: old - 1, lambda old: -old))
                changed = swapped(paper, rng.randrange(count), change)[0]
                wanted = plain_bound(web, weights, changed)
                self.assertEqual(self.bound(web, weights, changed), wanted)
                wrong += wanted is None
        self.assertGreater(wrong, 300)

    def test_papers_for_other_weights(self):
        rng = random.Random(715)
        for web in small_webs(715, 200):
            paper = drawn_paper(rng, web, drawn_weights(rng, web[0]))
            weights = drawn_weights(rng, web[0])
            self.assertEqual(self.bound(web, weights, paper), plain_bound(web, weights, paper))

    def test_each_clearing_set_weighs_at_least_the_bound(self):
        rng = random.Random(716)
        for web in small_webs(716, 150) + [theta(3), whole_web(5), circle(6)]:
            weights = drawn_weights(rng, web[0])
            bounds = [paper_bound(web, weights, drawn_paper(rng, web, weights)) for k in range(4)]
            for places in all_sets(web[0]):
                if plain_clears(web, places):
                    for top, bottom in bounds:
                        self.assertLessEqual(top, bottom * weigh(weights, places))

    def test_large_webs(self):
        web = whole_web(20)
        everything = tuple(range(20))
        paper = [("ties", everything, (1, 36)), ("ring", (0, 1, 2), (1, 2))]
        with soon():
            self.assertEqual(paper_bound(web, [1] * 20, paper), (21, 4))
            self.assertIsNone(paper_bound(web, [1] * 20, paper + [("ties", everything, (1, FAR))]))


class Named(unittest.TestCase):
    def test_arguments_by_their_names(self):
        layer = ("ring", (0, 1, 2), (1, 2))
        self.assertEqual(layer_takes(layer=layer, web=circle(3)), [(1, 2)] * 3)
        self.assertEqual(layer_bound(layer=layer, web=circle(3)), (1, 2))
        self.assertEqual(paper_bound(paper=[layer], weights=[1] * 3, web=circle(3)), (1, 2))


if __name__ == "__main__":
    unittest.main()
